import Derived.Test.YtonjmknjjdnjkaaSe
namespace Go.Proofs.Ytonjmknjjdnjkaa
open Go.RowKit

/-- settled, out of the play. -/
theorem settled_any {w0 w : World} {X T : Nat} (h : Game w0 w X T) (hT : T ≤ 4294967296) : Calls Try.prog 16 #[.pointer (some ⟨X, 4, none⟩)] w fun e w' => e = .returned (.bool true) ∧ Keeps (fun _ => False) w0 w' := by
  obtain ⟨cells, eB, eW, ba, ka, bc, kc, m, n, kb, kw, cs, cw, hB⟩ := h.bks hT
  obtain ⟨s, g, hH, hR, -, -⟩ := h.out
  have hK := hH.base hR.base
  exact (settle_any _ w X cells eB eW ba ka bc kc m n kb kw cs cw hB).mono fun e w' h' => ⟨h'.1, hK.trans h'.2 fun k hk h2 => by omega⟩
end Go.Proofs.Ytonjmknjjdnjkaa
