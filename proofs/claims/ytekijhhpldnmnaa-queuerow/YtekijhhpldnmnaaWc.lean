import Derived.Test.YtekijhhpldnmnaaWb
namespace Go.Proofs.Ytekijhhpldnmnaa
open Go.RowKit
set_option linter.unusedVariables false
set_option linter.unusedSimpArgs false

def bringN (d : Nat) (x : Rw) (ms : List (List UInt32)) : Rw := ms.foldl (fun x m => x.bring d m) x
theorem bringN_ok {n d : Nat} {x : Rw} (o : x.Ok 3 n d) (ms : List (List UInt32)) (h : ∀ m ∈ ms, 1 ≤ m.length ∧ m.length ≤ n) : (bringN d x ms).Ok 3 n d := by
  induction ms generalizing x with
  | nil => exact o
  | cons m ms ih => exact ih (o.bring (h m (by simp))) (fun k hk => h k (by simp [hk]))
theorem bringN_snoc (d : Nat) (x : Rw) (ms : List (List UInt32)) (j : Nat) (m : List UInt32) (h : ms[j]? = some m) : bringN d x (ms.take (j + 1)) = (bringN d x (ms.take j)).bring d m := by
  unfold bringN
  rw [List.take_add_one, h, List.foldl_append]
  rfl

def inM (xs : List UInt32) (h : Nat) (n d q : Int) : Bool := decide (0 ≤ q ∧ q + (rsz h n d : Int) ≤ xs.length)
def rtM (xs : List UInt32) (h : Nat) (n d q : Int) : Bool := rightB h n.toNat d.toNat (win xs q.toNat (rsz h n d))
def dlE (nil : Bool) (xs : List UInt32) (p n d : Int) (ports : List Int) : Int :=
  if fitE nil n d ≠ 0 then fitE nil n d
  else if 4 < ports.length then 2
  else if inM xs 1 n d p = false then 51
  else if ports.all (inM xs 3 n d) = false then 51
  else if rtM xs 1 n d p = false then 201
  else if ports.all (rtM xs 3 n d) = false then 201 else 0
def dlP (xs : List UInt32) (n d : Int) (ms : List (List UInt32)) (q : Int) : List UInt32 := enc 3 n.toNat d.toNat (bringN d.toNat (rdA xs q 3 n d) ms)
def dlX (xs : List UInt32) (p n d : Int) (ports : List Int) : List UInt32 :=
  lay (ports.foldl (fun ys q => lay ys q.toNat (dlP xs n d (rdA xs p 1 n d).ms q)) xs) p.toNat (List.replicate (rsz 1 n d) 0)

theorem flatR_congr {n d : Nat} {rs ss : List Rr} (hl : rs.length = ss.length) (h : ∀ (i : Nat) (r s : Rr), rs[i]? = some r → ss[i]? = some s → r.vs n d = s.vs n d) : flatR n d rs = flatR n d ss := by
  induction rs generalizing ss with
  | nil =>
    cases ss with
    | nil => rfl
    | cons s ss => simp at hl
  | cons r rs ih =>
    cases ss with
    | nil => simp at hl
    | cons s ss =>
      show r.vs n d ++ flatR n d rs = s.vs n d ++ flatR n d ss
      rw [h 0 r s rfl rfl, ih (by simpa using hl) (fun i r s h1 h2 => h (i + 1) r s h1 h2)]

set_option maxHeartbeats 400000 in
theorem deliver_fit (nil : Bool) (b : Nat) (p n d : Int) (mv : Value) (w : World) (he : fitE nil n d ≠ 0) :
    Calls Try.prog 17 #[mpv nil b, .int .i64 p, .int .i64 n, .int .i64 d, mv] w fun e w' => e = .returned (.int .i64 (fitE nil n d)) ∧ w' = w := by
  have HC : Hid (Calls _ _ _ _ _) := fits_any nil b n d w
  obtain ⟨E, hE⟩ : ∃ E, E = fitE nil n d := ⟨_, rfl⟩
  rw [← hE] at HC he ⊢
  have hE0 : (E != 0) = true := bne_iff_ne.2 he
  obtain ⟨v, hv⟩ : ∃ v, v = (if nil then (none : Option Addr) else some ⟨b, 0, none⟩) := ⟨_, rfl⟩
  unfold mpv at HC ⊢
  rw [← hv] at HC ⊢
  clear hE he hv
  go_enter Try.func17, Try.ntmps17
  go_wp2_with fail
  refine HC.out.mono ?_
  rintro e w1 ⟨rfl, hw⟩
  obtain rfl := hw.symm
  clear hw HC
  go_wp2
  go_ret
  exact ⟨rfl, rfl⟩

set_option maxHeartbeats 400000 in
theorem deliver_long (b : Nat) (p n d : Int) (a : Option Addr) (k c : Nat) (w : World) (he : fitE false n d = 0) (hk : 4 < k) :
    Calls Try.prog 17 #[.pointer (some ⟨b, 0, none⟩), .int .i64 p, .int .i64 n, .int .i64 d, .slice a k c] w fun e w' => e = .returned (.int .i64 2) ∧ w' = w := by
  have HC : Hid (Calls Try.prog 38 #[.pointer (some ⟨b, 0, none⟩), .int .i64 n, .int .i64 d] w fun e w' => e = .returned (.int .i64 0) ∧ w' = w) := by
    have q := fits_any false b n d w
    rw [he] at q
    exact q
  have hk2 : (4 : Int) < (k : Int) := by omega
  clear he hk
  go_enter Try.func17, Try.ntmps17
  go_wp2_with fail
  refine HC.out.mono ?_
  rintro e w1 ⟨rfl, hw⟩
  obtain rfl := hw.symm
  clear hw HC
  go_wp2
  go_ret
  exact ⟨rfl, rfl⟩

set_option maxRecDepth 20000 in
set_option maxHeartbeats 1000000 in
theorem deliver_stage (b g : Nat) (xs : List UInt32) (p : Int) (n d : Nat) (a : Option Addr) (k c : Nat) (w : World) (hm : Mm w b g xs) (hp : p ≤ 9223372036854775807) (he : fitE false n d = 0) (hk : ¬ 4 < k) (hi : ¬ (0 ≤ p ∧ p + (rsz 1 n d : Int) ≤ xs.length)) :
    Calls Try.prog 17 #[.pointer (some ⟨b, 0, none⟩), .int .i64 p, .int .i64 n, .int .i64 d, .slice a k c] w fun e w' => e = .returned (.int .i64 51) ∧ Keeps (fun _ => False) w w' := by
  have HF : Hid (Calls Try.prog 38 #[.pointer (some ⟨b, 0, none⟩), .int .i64 n, .int .i64 d] w fun e w' => e = .returned (.int .i64 0) ∧ w' = w) := by
    have q := fits_any false b n d w
    rw [he] at q
    exact q
  have HC : Hid (Calls Try.prog 44 #[.pointer (some ⟨b, 0, none⟩), .int .i64 p, .int .i64 1, .int .i64 n, .int .i64 d] w fun e w' => e = .returned (.tuple #[rw0, .int .i64 51]) ∧ Keeps (fun _ => False) w w') := take_away b g xs p 1 n d w hm (by omega) he hi hp
  have hk2 : ¬ (4 : Int) < (k : Int) := by omega
  clear he hk hm hp hi
  go_enter Try.func17, Try.ntmps17
  go_wp2_with fail
  refine HF.out.mono ?_
  rintro e w1 ⟨rfl, hw⟩
  obtain rfl := hw.symm
  clear hw HF
  go_wp2_with fail
  refine HC.out.mono ?_
  rintro e w2 ⟨rfl, hk2⟩
  have HK2 : Hid (Keeps _ _ _) := hk2
  clear hk2 HC
  go_wp2
  go_ret
  exact ⟨rfl, HK2.out.alloc _⟩

end Go.Proofs.Ytekijhhpldnmnaa
