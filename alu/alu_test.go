package alu_test

import (
	"math"
	"math/rand/v2"
	"slices"
	"testing"

	"bulkhead/alu"
	"bulkhead/api"
)

// The operations by the numbers that the document prints, not by what package api reckons.
const (
	add, sub, mul, div, rem  = 5, 6, 7, 8, 9
	and, or, xor             = 10, 11, 12
	shl, shr, sar            = 13, 14, 15
	slt, sltu                = 16, 17
	beq, bne, blt, bge, bltu = 21, 22, 23, 24, 25
)

// The words that are the greatest as they are (and -1 signed) and the least signed, and how many words there are.
const (
	top    = 1<<32 - 1
	bottom = 1 << 31
	whole  = int64(1) << 32
)

// makers: the operations that make a word; askers: those that branch.
func makers() []int {
	return []int{add, sub, mul, div, rem, and, or, xor, shl, shr, sar, slt, sltu}
}

func askers() []int { return []int{beq, bne, blt, bge, bltu} }

// others: ints beside a list of operations: all near ones, and those that a narrower kind of number would take for one of the list.
func others(list []int) []int {
	ops := []int{math.MinInt, math.MinInt + 1, math.MinInt32, math.MaxInt32, math.MaxInt - 1, math.MaxInt}
	for op := -300; op < 300; op++ {
		if !slices.Contains(list, op) {
			ops = append(ops, op)
		}
	}
	for _, op := range list {
		ops = append(ops, op+1<<8, op+1<<16, op+1<<31, op+1<<32, op-1<<32, op+math.MinInt)
	}
	return ops
}

// words: the ends of both ways to read a word, what lies beside them, all single bits, and some without a pattern.
func words() []uint32 {
	list := []uint32{0, 1, 2, 3, 5, 7, 10, 31, 32, 33, 63, 64, 65, 1000, 65535, 65536, 65537, 0x55555555, 0xAAAAAAAA, bottom - 2, bottom - 1, bottom, bottom + 1, bottom + 2, top - 6, top - 2, top - 1, top}
	for n := range 32 {
		list = append(list, 1<<n, -(1 << n), 1<<n-1)
	}
	source := rand.New(rand.NewPCG(3, 1))
	for range 40 {
		list = append(list, source.Uint32())
	}
	slices.Sort(list)
	return slices.Compact(list)
}

// pairs goes through each word beside each one, and then through many that have no pattern, of all lengths.
func pairs(each func(x, y uint32)) {
	for _, x := range words() {
		for _, y := range words() {
			each(x, y)
		}
	}
	source := rand.New(rand.NewPCG(3, 2))
	for range 20000 {
		x, y := source.Uint32()>>source.IntN(32), source.Uint32()>>source.IntN(32)
		each(x, y)
		each(-x, y)
		each(x, -y)
	}
}

// signed: a word of 2^31 or more stands for itself less 2^32.
func signed(w uint32) int64 {
	if w >= bottom {
		return int64(w) - whole
	}
	return int64(w)
}

// word: a number modulo 2^32.
func word(n int64) uint32 { return uint32(((n % whole) + whole) % whole) }

func size(n int64) int64 {
	if n < 0 {
		return -n
	}
	return n
}

// quotient: by the sizes alone, the sign put on behind; so it is cut towards zero.
func quotient(x, y uint32) int64 {
	q := size(signed(x)) / size(signed(y))
	if (signed(x) < 0) != (signed(y) < 0) {
		q = -q
	}
	return q
}

// bitByBit lays two words side by side and asks a table of four: bit 2 a + b of it is what a and b make.
func bitByBit(x, y uint32, table int) uint32 {
	var w uint32
	for n := 31; n >= 0; n-- {
		a, b := int(x>>n&1), int(y>>n&1)
		w = w*2 + uint32(table>>(2*a+b)&1)
	}
	return w
}

// moved doubles or halves place by place; the bit that comes in from above is the word's highest, or 0.
func moved(op int, x, y uint32) uint32 {
	for range y % 32 {
		switch {
		case op == shl:
			x = word(int64(x) * 2)
		case op == sar && x >= bottom:
			x = x/2 + bottom
		default:
			x /= 2
		}
	}
	return x
}

func one(holds bool) uint32 {
	if holds {
		return 1
	}
	return 0
}

// wanted: the document's table of Do, reckoned in numbers that have room for all; y is not 0 where it divides.
func wanted(op int, x, y uint32) uint32 {
	switch op {
	case add:
		return word(int64(x) + int64(y))
	case sub:
		return word(int64(x) - int64(y))
	case mul:
		return uint32(uint64(x) * uint64(y) % uint64(whole))
	case div:
		return word(quotient(x, y))
	case rem:
		return word(signed(x) - signed(y)*quotient(x, y))
	case and:
		return bitByBit(x, y, 0b1000)
	case or:
		return bitByBit(x, y, 0b1110)
	case xor:
		return bitByBit(x, y, 0b0110)
	case slt:
		return one(signed(x) < signed(y))
	case sltu:
		return one(int64(x) < int64(y))
	}
	return moved(op, x, y)
}

// wantedBranch: what the document says of Takes.
func wantedBranch(op int, x, y uint32) bool {
	switch op {
	case beq:
		return int64(x)-int64(y) == 0
	case bne:
		return int64(x)-int64(y) != 0
	case blt:
		return signed(x)-signed(y) < 0
	case bge:
		return signed(x)-signed(y) >= 0
	}
	return int64(x)-int64(y) < 0
}

func wantDo(t *testing.T, op int, x, y, want uint32, wantE api.Errno) {
	t.Helper()
	if w, e := alu.Do(op, x, y); w != want || e != wantE {
		t.Fatalf("Do(%d, %d, %d) = %d, %d, not %d, %d", op, x, y, w, e, want, wantE)
	}
}

func wantTakes(t *testing.T, op int, x, y uint32, want bool, wantE api.Errno) {
	t.Helper()
	if b, e := alu.Takes(op, x, y); b != want || e != wantE {
		t.Fatalf("Takes(%d, %d, %d) = %t, %d, not %t, %d", op, x, y, b, e, want, wantE)
	}
}

// do is Do where there is no error.
func do(t *testing.T, op int, x, y uint32) uint32 {
	t.Helper()
	w, e := alu.Do(op, x, y)
	if e != api.OK {
		t.Fatalf("Do(%d, %d, %d): error %d", op, x, y, e)
	}
	return w
}

// takes is Takes where there is no error.
func takes(t *testing.T, op int, x, y uint32) bool {
	t.Helper()
	b, e := alu.Takes(op, x, y)
	if e != api.OK {
		t.Fatalf("Takes(%d, %d, %d): error %d", op, x, y, e)
	}
	return b
}

// The section 'Errors'.
func TestErrorNumbers(t *testing.T) {
	if api.ErrAluOp != 30 || api.ErrAluZero != 31 {
		t.Errorf("ErrAluOp %d, ErrAluZero %d, not 30, 31", int(api.ErrAluOp), int(api.ErrAluZero))
	}
}

// wantJust holds a question against the list of ints of which it is true.
func wantJust(t *testing.T, name string, ask func(op int) bool, list []int) {
	t.Helper()
	for _, op := range list {
		if !ask(op) {
			t.Errorf("%s(%d) is false", name, op)
		}
	}
	for _, op := range others(list) {
		if ask(op) {
			t.Errorf("%s(%d) is true", name, op)
		}
	}
}

// The section 'Functions': Does, Branches.
func TestDoesAndBranches(t *testing.T) {
	wantJust(t, "Does", alu.Does, makers())
	wantJust(t, "Branches", alu.Branches, askers())
}

// The section 'Functions': the operations are meant that package api names.
func TestOperationsByName(t *testing.T) {
	named := []int{api.OpAdd, api.OpSub, api.OpMul, api.OpDiv, api.OpRem, api.OpAnd, api.OpOr, api.OpXor, api.OpShl, api.OpShr, api.OpSar, api.OpSlt, api.OpSltu}
	if !slices.Equal(named, makers()) {
		t.Errorf("operations that make a word: %v, not %v", named, makers())
	}
	named = []int{api.OpBeq, api.OpBne, api.OpBlt, api.OpBge, api.OpBltu}
	if !slices.Equal(named, askers()) {
		t.Errorf("operations that branch: %v, not %v", named, askers())
	}
}

// P3.1, P3.2: the section 'Examples', of Do.
func TestExamplesOfDo(t *testing.T) {
	rows := []struct {
		op         int
		x, y, want uint32
		e          api.Errno
	}{
		{api.OpAdd, 1<<32 - 1, 2, 1, api.OK},
		{api.OpMul, 65536, 65537, 65536, api.OK},
		{api.OpDiv, 1<<32 - 7, 2, 1<<32 - 3, api.OK},
		{api.OpRem, 1<<32 - 7, 2, 1<<32 - 1, api.OK},
		{api.OpDiv, 1 << 31, 1<<32 - 1, 1 << 31, api.OK},
		{api.OpRem, 1 << 31, 1<<32 - 1, 0, api.OK},
		{api.OpDiv, 5, 0, 0, api.ErrAluZero},
		{api.OpMov, 5, 0, 0, api.ErrAluOp},
		{30, 1, 1, 0, api.ErrAluOp},
		{api.OpSar, 1 << 31, 31, 1<<32 - 1, api.OK},
		{api.OpShr, 1 << 31, 31, 1, api.OK},
		{api.OpShl, 3, 33, 6, api.OK},
		{api.OpSlt, 1<<32 - 1, 0, 1, api.OK},
		{api.OpSltu, 1<<32 - 1, 0, 0, api.OK},
	}
	for _, r := range rows {
		wantDo(t, r.op, r.x, r.y, r.want, r.e)
	}
}

// P3.1: the section 'Examples', of Takes.
func TestExamplesOfTakes(t *testing.T) {
	wantTakes(t, api.OpBlt, 1<<32-1, 0, true, api.OK)
	wantTakes(t, api.OpBltu, 1<<32-1, 0, false, api.OK)
	wantTakes(t, api.OpJmp, 1, 1, false, api.ErrAluOp)
}

// P3.1: words that are written out, two operands of each operation that are not alike.
func TestDoWrittenOut(t *testing.T) {
	rows := []struct {
		op         int
		x, y, want uint32
	}{
		{add, 12, 10, 22}, {add, bottom, bottom, 0}, {add, top, top, top - 1},
		{sub, 12, 10, 2}, {sub, 10, 12, top - 1}, {sub, 0, bottom, bottom},
		{mul, 12, 10, 120}, {mul, top, top, 1}, {mul, bottom, 3, bottom},
		{div, 12, 10, 1}, {div, 7, top - 1, top - 2}, {div, top - 6, top - 1, 3}, {div, bottom, 1, bottom}, {div, bottom, 2, 0xC0000000}, {div, 5, bottom, 0}, {div, bottom, bottom, 1}, {div, 0, 9, 0},
		{rem, 12, 10, 2}, {rem, 7, top - 1, 1}, {rem, top - 6, top - 1, top}, {rem, bottom, 1, 0}, {rem, bottom, 3, top - 1}, {rem, 5, bottom, 5}, {rem, bottom, bottom, 0}, {rem, 0, 9, 0},
		{and, 12, 10, 8}, {and, top, bottom, bottom},
		{or, 12, 10, 14}, {or, bottom, 1, bottom + 1},
		{xor, 12, 10, 6}, {xor, top, top, 0},
		{shl, 12, 10, 12288}, {shl, 3, 31, bottom}, {shl, 5, 0, 5}, {shl, 5, 32, 5}, {shl, 1, top, bottom},
		{shr, 12288, 10, 12}, {shr, top, 31, 1}, {shr, bottom + 5, 0, bottom + 5}, {shr, top, 32, top}, {shr, bottom, top, 1},
		{sar, 12288, 10, 12}, {sar, bottom - 1, 30, 1}, {sar, bottom, 1, 0xC0000000}, {sar, top - 6, 1, top - 3}, {sar, bottom, 32, bottom}, {sar, bottom, top, top},
		{slt, 10, 12, 1}, {slt, 12, 10, 0}, {slt, 7, 7, 0}, {slt, bottom, bottom - 1, 1}, {slt, bottom - 1, bottom, 0}, {slt, top - 1, top, 1},
		{sltu, 10, 12, 1}, {sltu, 12, 10, 0}, {sltu, 7, 7, 0}, {sltu, bottom, bottom - 1, 0}, {sltu, bottom - 1, bottom, 1}, {sltu, top - 1, top, 1},
	}
	for _, r := range rows {
		wantDo(t, r.op, r.x, r.y, r.want, api.OK)
	}
}

// P3.1: the table of Do, held against another reckoning.
func TestDo(t *testing.T) {
	pairs(func(x, y uint32) {
		for _, op := range makers() {
			if y == 0 && (op == div || op == rem) {
				continue
			}
			wantDo(t, op, x, y, wanted(op, x, y), api.OK)
		}
	})
}

// P3.1: a division by zero, and what is no division.
func TestDoByZero(t *testing.T) {
	for _, x := range words() {
		wantDo(t, div, x, 0, 0, api.ErrAluZero)
		wantDo(t, rem, x, 0, 0, api.ErrAluZero)
		for _, op := range []int{add, sub, or, xor, shl, shr, sar} {
			wantDo(t, op, x, 0, x, api.OK)
		}
		wantDo(t, mul, x, 0, 0, api.OK)
		wantDo(t, and, x, 0, 0, api.OK)
	}
}

// P3.1: no such operation; that goes ahead of a division by zero.
func TestDoNoOperation(t *testing.T) {
	for _, op := range others(makers()) {
		for _, y := range []uint32{0, 1, 2, bottom, top} {
			wantDo(t, op, 0, y, 0, api.ErrAluOp)
			wantDo(t, op, 5, y, 0, api.ErrAluOp)
			wantDo(t, op, top, y, 0, api.ErrAluOp)
		}
	}
}

// P3.1: what is said of Takes, held against another reckoning.
func TestTakes(t *testing.T) {
	pairs(func(x, y uint32) {
		for _, op := range askers() {
			wantTakes(t, op, x, y, wantedBranch(op, x, y), api.OK)
			wantTakes(t, op, x, x, wantedBranch(op, x, x), api.OK)
		}
	})
}

// P3.1: no such branch.
func TestTakesNoOperation(t *testing.T) {
	for _, op := range others(askers()) {
		for _, y := range []uint32{0, 1, 5, bottom, top} {
			wantTakes(t, op, 0, y, false, api.ErrAluOp)
			wantTakes(t, op, 5, y, false, api.ErrAluOp)
			wantTakes(t, op, top, y, false, api.ErrAluOp)
		}
	}
}

// P3.2: quotient and rest are x together; the rest is nearer to zero than y, and is 0 or has x's sign.
func TestDivision(t *testing.T) {
	pairs(func(x, y uint32) {
		if y == 0 {
			return
		}
		q, r := do(t, div, x, y), do(t, rem, x, y)
		if y*q+r != x {
			t.Fatalf("%d by %d is %d, %d left: together %d", signed(x), signed(y), signed(q), signed(r), signed(y*q+r))
		}
		if size(signed(r)) >= size(signed(y)) {
			t.Fatalf("%d by %d: %d left, not nearer to zero", signed(x), signed(y), signed(r))
		}
		if r != 0 && (signed(r) < 0) != (signed(x) < 0) {
			t.Fatalf("%d by %d: %d left, of another sign", signed(x), signed(y), signed(r))
		}
	})
}

// P3.3: of two unlike words just one is below the other one, of two like ones none; the orders part only where the signs do.
func TestOrders(t *testing.T) {
	pairs(func(x, y uint32) {
		for _, op := range []int{slt, sltu} {
			if n := do(t, op, x, y) + do(t, op, y, x); n != one(x != y) {
				t.Fatalf("operation %d of %d and %d, both ways: %d", op, x, y, n)
			}
		}
		part := do(t, slt, x, y) != do(t, sltu, x, y)
		if unlike := (x >= bottom) != (y >= bottom); part != unlike {
			t.Fatalf("slt and sltu of %d and %d part: %t", x, y, part)
		}
	})
}

// P3.3: an order goes on from one to the next: x below y and y below z make x below z.
func TestOrdersGoOn(t *testing.T) {
	source := rand.New(rand.NewPCG(3, 3))
	list := words()
	for range 100000 {
		x, y, z := list[source.IntN(len(list))], list[source.IntN(len(list))], list[source.IntN(len(list))]
		for _, op := range []int{slt, sltu} {
			if do(t, op, x, y) == 1 && do(t, op, y, z) == 1 && do(t, op, x, z) != 1 {
				t.Fatalf("operation %d: %d, %d, %d are no order", op, x, y, z)
			}
		}
	}
}

// P3.3: the branches beside the operations.
func TestBranchesAndOrders(t *testing.T) {
	hold := func(x, y uint32) {
		lower, lowerU, same := do(t, slt, x, y) == 1, do(t, sltu, x, y) == 1, do(t, xor, x, y) == 0
		if takes(t, blt, x, y) != lower || takes(t, bge, x, y) == lower {
			t.Fatalf("blt, bge of %d and %d are not the two ways of slt", x, y)
		}
		if takes(t, bltu, x, y) != lowerU {
			t.Fatalf("bltu of %d and %d is not sltu", x, y)
		}
		if takes(t, beq, x, y) != same || takes(t, bne, x, y) == same {
			t.Fatalf("beq, bne of %d and %d are not as xor makes it", x, y)
		}
	}
	pairs(func(x, y uint32) {
		hold(x, y)
		hold(x, x)
	})
}

// P3.4: moved by n and then by m places is moved by both together, and by 32 places more it is the same.
func TestMoving(t *testing.T) {
	for _, x := range words() {
		for n := range uint32(32) {
			for m := range 32 - n {
				for _, op := range []int{shl, shr, sar} {
					once, twice := do(t, op, x, n+m), do(t, op, do(t, op, x, n), m)
					if once != twice {
						t.Fatalf("operation %d of %d by %d and %d: %d, not %d", op, x, n, m, twice, once)
					}
					if more := do(t, op, x, n+m+32); more != once {
						t.Fatalf("operation %d of %d by %d: %d, not %d", op, x, n+m+32, more, once)
					}
				}
			}
		}
	}
}

// P3.4: by one place towards the highest bit is the word and itself.
func TestMovingByOne(t *testing.T) {
	pairs(func(x, _ uint32) {
		if a, b := do(t, shl, x, 1), do(t, add, x, x); a != b {
			t.Fatalf("%d moved by one: %d, added to itself: %d", x, a, b)
		}
	})
}
