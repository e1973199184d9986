package bvec_test

import (
	"math"
	"math/big"
	"testing"

	"dovetail/api"
	"dovetail/bvec"
)

// The tests hold bvec against sums of package big, which knows no widths.

func two(n int) *big.Int { return new(big.Int).Lsh(big.NewInt(1), uint(n)) }

func val(a api.Bits) *big.Int {
	v := new(big.Int).SetUint64(a.Hi)
	return v.Lsh(v, 64).Or(v, new(big.Int).SetUint64(a.Lo))
}

func sval(a api.Bits) *big.Int {
	v := val(a)
	if v.Bit(a.W-1) == 1 {
		v.Sub(v, two(a.W))
	}
	return v
}

// low is the lowest w bits of any number.
func low(w int, v *big.Int) api.Bits {
	v = new(big.Int).Mod(v, two(w))
	lo := new(big.Int).Mod(v, two(64))
	return api.Bits{W: w, Hi: v.Rsh(v, 64).Uint64(), Lo: lo.Uint64()}
}

func isNormal(a api.Bits) bool {
	return a.W >= 1 && a.W <= 128 && val(a).BitLen() <= a.W
}

// words are those whose edges matter, and some of no order.
func words() []uint64 {
	return []uint64{0, 1, 2, 3, 5, 7, 8, 127, 128, 255, 1<<31 - 1, 1 << 31, 1 << 32, 1<<63 - 1, 1 << 63, 1<<63 + 1, math.MaxUint64 - 1, math.MaxUint64, 0x0123456789abcdef, 0xfedcba9876543210, 0xdeadbeef00c0ffee}
}

func numbers() []int {
	return []int{math.MinInt, math.MinInt + 1, -1 << 62, -1 << 32, -256, -129, -128, -127, -2, -1, 0, 1, 2, 3, 63, 64, 65, 127, 128, 129, 255, 256, 1 << 32, 1 << 62, math.MaxInt - 1, math.MaxInt}
}

func widths() []int { return []int{1, 2, 3, 7, 8, 31, 32, 33, 63, 64, 65, 66, 100, 127, 128} }

func notWidths() []int { return []int{0, -1, -64, 129, 192, 256, math.MinInt, math.MaxInt} }

// samples are normal bits of a width: all of a small one, the edges of a great one.
func samples(w int) []api.Bits {
	var out []api.Bits
	if w <= 4 {
		for n := range 1 << w {
			out = append(out, api.Bits{W: w, Lo: uint64(n)})
		}
		return out
	}
	seen := map[api.Bits]bool{}
	add := func(v *big.Int) {
		if a := low(w, v); !seen[a] {
			seen[a] = true
			out = append(out, a)
		}
	}
	for _, n := range []int{0, 1, 2, 3, 7, -1, -2, -3, -7} {
		add(big.NewInt(int64(n)))
	}
	for _, at := range []int{w / 2, w - 2, w - 1, 63, 64} {
		add(two(at))
		add(new(big.Int).Sub(two(at), big.NewInt(1)))
		add(new(big.Int).Add(two(at), big.NewInt(1)))
	}
	some := uint64(w)
	for range 8 {
		some = some*6364136223846793005 + 1442695040888963407
		hi := some
		some = some*6364136223846793005 + 1442695040888963407
		v := val(api.Bits{W: 128, Hi: hi, Lo: some})
		add(v)
		add(v.Rsh(v, uint(some>>57)))
	}
	return out
}

// odd are bits that aren't normal.
func odd() []api.Bits {
	out := []api.Bits{{}, {Lo: 1}, {Hi: 1}, {W: 1, Lo: 2}, {W: 4, Lo: 16}, {W: 8, Lo: 1 << 63}, {W: 8, Hi: 1}, {W: 63, Lo: 1 << 63}, {W: 64, Hi: 1}, {W: 65, Hi: 2}, {W: 127, Hi: 1 << 63}}
	for _, w := range notWidths() {
		out = append(out, api.Bits{W: w}, api.Bits{W: w, Lo: 1}, api.Bits{W: w, Hi: 1 << 63, Lo: 5})
	}
	return out
}

// binOps are the operations on two.
func binOps() []int {
	return []int{api.OpAdd, api.OpSub, api.OpMul, api.OpAnd, api.OpOr, api.OpXor, api.OpShl, api.OpShr, api.OpSar, api.OpDivu, api.OpRemu, api.OpDivs, api.OpRems, api.OpEq, api.OpLtu, api.OpLts, api.OpCat}
}

// P1.1

func TestMake(t *testing.T) {
	for _, hi := range words() {
		for _, lo := range words() {
			v := val(api.Bits{W: 128, Hi: hi, Lo: lo})
			for w := 1; w <= 128; w++ {
				if got, want := bvec.Make(w, hi, lo), low(w, v); got != want {
					t.Fatal(w, hi, lo, got, want)
				}
			}
			for _, w := range notWidths() {
				if got := bvec.Make(w, hi, lo); got != (api.Bits{}) {
					t.Fatal(w, hi, lo, got)
				}
			}
		}
	}
}

func TestFromInt(t *testing.T) {
	if got := bvec.FromInt(8, -1); got != (api.Bits{W: 8, Lo: 255}) {
		t.Error(got)
	}
	if got := bvec.FromInt(128, -1); got != (api.Bits{W: 128, Hi: math.MaxUint64, Lo: math.MaxUint64}) {
		t.Error(got)
	}
	for _, n := range numbers() {
		for w := 1; w <= 128; w++ {
			if got, want := bvec.FromInt(w, n), low(w, big.NewInt(int64(n))); got != want {
				t.Fatal(w, n, got, want)
			}
		}
		for _, w := range notWidths() {
			if got := bvec.FromInt(w, n); got != (api.Bits{}) {
				t.Fatal(w, n, got)
			}
		}
	}
}

func TestNormal(t *testing.T) {
	for w := 1; w <= 128; w++ {
		for _, a := range samples(w) {
			if !bvec.Normal(a) {
				t.Fatal(a)
			}
		}
	}
	for _, a := range odd() {
		if bvec.Normal(a) {
			t.Error(a)
		}
	}
	for w := 1; w < 128; w++ {
		for at := w; at < 128; at++ {
			a := low(128, two(at))
			a.W = w
			if bvec.Normal(a) {
				t.Fatal(a)
			}
		}
	}
}

// P1.2

func TestExtract(t *testing.T) {
	for _, w := range widths() {
		for _, a := range samples(w) {
			for hi := -1; hi <= w+1; hi++ {
				for lo := -1; lo <= w+1; lo++ {
					want := api.Bits{}
					if 0 <= lo && lo <= hi && hi < w {
						want = low(hi-lo+1, new(big.Int).Rsh(val(a), uint(lo)))
					}
					if got := bvec.Extract(a, hi, lo); got != want {
						t.Fatal(a, hi, lo, got, want)
					}
				}
			}
		}
	}
}

func TestExtractOutside(t *testing.T) {
	a := bvec.FromInt(128, -1)
	for _, c := range [][2]int{{128, 0}, {math.MaxInt, 0}, {math.MaxInt, math.MinInt}, {5, math.MinInt}, {math.MinInt, math.MinInt}, {math.MaxInt, math.MaxInt}, {5, 6}, {5, -1}} {
		if got := bvec.Extract(a, c[0], c[1]); got != (api.Bits{}) {
			t.Error(c, got)
		}
	}
}

func TestInsert(t *testing.T) {
	for _, w := range widths() {
		as := samples(w)
		as = as[max(0, len(as)-6):]
		for _, v := range widths() {
			bs := samples(v)
			for _, b := range bs[max(0, len(bs)-6):] {
				for _, a := range as {
					for lo := -2; lo <= w+1; lo++ {
						if got, want := bvec.Insert(a, lo, b), inserted(a, lo, b); got != want {
							t.Fatal(a, lo, b, got, want)
						}
					}
				}
			}
		}
	}
}

func inserted(a api.Bits, lo int, b api.Bits) api.Bits {
	if lo < 0 || lo+b.W > a.W {
		return api.Bits{}
	}
	v := val(a)
	for n := range b.W {
		v.SetBit(v, lo+n, val(b).Bit(n))
	}
	return low(a.W, v)
}

func TestInsertOutside(t *testing.T) {
	a, b := bvec.FromInt(64, 0), bvec.FromInt(8, -1)
	for _, lo := range []int{57, 64, -1, -8, math.MaxInt, math.MaxInt - 7, math.MinInt} {
		if got := bvec.Insert(a, lo, b); got != (api.Bits{}) {
			t.Error(lo, got)
		}
	}
	if got := bvec.Insert(b, 0, a); got != (api.Bits{}) {
		t.Error(got)
	}
	if got := bvec.Insert(a, 56, b); got != (api.Bits{W: 64, Lo: 255 << 56}) {
		t.Error(got)
	}
}

func TestZextSext(t *testing.T) {
	for w := 1; w <= 128; w++ {
		for _, a := range samples(w) {
			for v := 1; v <= 128; v++ {
				if got, want := bvec.Zext(a, v), low(v, val(a)); got != want {
					t.Fatal("Zext", a, v, got, want)
				}
				if got, want := bvec.Sext(a, v), low(v, sval(a)); got != want {
					t.Fatal("Sext", a, v, got, want)
				}
			}
			for _, v := range notWidths() {
				if bvec.Zext(a, v) != (api.Bits{}) || bvec.Sext(a, v) != (api.Bits{}) {
					t.Fatal(a, v)
				}
			}
		}
	}
}

func TestPartsOfOddBits(t *testing.T) {
	good := bvec.FromInt(8, 5)
	for _, a := range odd() {
		for _, got := range []api.Bits{bvec.Extract(a, 0, 0), bvec.Extract(a, 3, 1), bvec.Insert(a, 0, good), bvec.Insert(good, 0, a), bvec.Insert(bvec.FromInt(128, 0), 0, a), bvec.Zext(a, 8), bvec.Zext(a, 128), bvec.Sext(a, 8), bvec.Sext(a, 128)} {
			if got != (api.Bits{}) {
				t.Error(a, got)
			}
		}
	}
}

// P1.3

func TestUn(t *testing.T) {
	for w := 1; w <= 128; w++ {
		for _, a := range samples(w) {
			if got, want := bvec.Un(api.OpNot, a), low(w, new(big.Int).Not(val(a))); got != want {
				t.Fatal("not", a, got, want)
			}
			if got, want := bvec.Un(api.OpNeg, a), low(w, new(big.Int).Neg(val(a))); got != want {
				t.Fatal("neg", a, got, want)
			}
		}
	}
	for _, a := range odd() {
		if bvec.Un(api.OpNot, a) != (api.Bits{}) || bvec.Un(api.OpNeg, a) != (api.Bits{}) {
			t.Error(a)
		}
	}
}

func TestUnOtherOps(t *testing.T) {
	ops := numbers()
	for op := -3; op < 60; op++ {
		ops = append(ops, op)
	}
	for _, op := range ops {
		if op == api.OpNot || op == api.OpNeg {
			continue
		}
		if got := bvec.Un(op, bvec.FromInt(8, 5)); got != (api.Bits{}) {
			t.Error(op, got)
		}
	}
}

// P1.4

// model is what Bin ought to answer of normal bits.
func model(op int, a, b api.Bits) api.Bits {
	if op == api.OpCat {
		if a.W+b.W > 128 {
			return api.Bits{}
		}
		return low(a.W+b.W, new(big.Int).Or(new(big.Int).Lsh(val(a), uint(b.W)), val(b)))
	}
	if op == api.OpShl || op == api.OpShr || op == api.OpSar {
		return modelShift(op, a, b)
	}
	if a.W != b.W {
		return api.Bits{}
	}
	if op == api.OpEq || op == api.OpLtu || op == api.OpLts {
		return modelTruth(op, a, b)
	}
	if op >= api.OpDivu && op <= api.OpRems {
		return modelDivide(op, a, b)
	}
	z := new(big.Int)
	switch op {
	case api.OpAdd:
		z.Add(val(a), val(b))
	case api.OpSub:
		z.Sub(val(a), val(b))
	case api.OpMul:
		z.Mul(val(a), val(b))
	case api.OpAnd:
		z.And(val(a), val(b))
	case api.OpOr:
		z.Or(val(a), val(b))
	case api.OpXor:
		z.Xor(val(a), val(b))
	default:
		return api.Bits{}
	}
	return low(a.W, z)
}

func modelShift(op int, a, b api.Bits) api.Bits {
	n := uint(a.W)
	if val(b).Cmp(big.NewInt(int64(a.W))) < 0 {
		n = uint(b.Lo)
	}
	switch op {
	case api.OpShl:
		return low(a.W, new(big.Int).Lsh(val(a), n))
	case api.OpShr:
		return low(a.W, new(big.Int).Rsh(val(a), n))
	}
	return low(a.W, new(big.Int).Rsh(sval(a), n))
}

func modelTruth(op int, a, b api.Bits) api.Bits {
	is := op == api.OpEq && val(a).Cmp(val(b)) == 0 || op == api.OpLtu && val(a).Cmp(val(b)) < 0 || op == api.OpLts && sval(a).Cmp(sval(b)) < 0
	if is {
		return api.Bits{W: 1, Lo: 1}
	}
	return api.Bits{W: 1}
}

func modelDivide(op int, a, b api.Bits) api.Bits {
	quotient := op == api.OpDivu || op == api.OpDivs
	if val(b).Sign() == 0 {
		if quotient {
			return low(a.W, big.NewInt(-1))
		}
		return a
	}
	x, y := val(a), val(b)
	if op == api.OpDivs || op == api.OpRems {
		x, y = sval(a), sval(b)
	}
	q, r := new(big.Int).QuoRem(x, y, new(big.Int))
	if quotient {
		return low(a.W, q)
	}
	return low(a.W, r)
}

func TestBinOfOneWidth(t *testing.T) {
	for w := 1; w <= 128; w++ {
		for _, a := range samples(w) {
			for _, b := range samples(w) {
				for _, op := range binOps() {
					if got, want := bvec.Bin(op, a, b), model(op, a, b); got != want {
						t.Fatal(op, a, b, got, want)
					}
				}
			}
		}
	}
}

func TestBinOfTwoWidths(t *testing.T) {
	for _, v := range widths() {
		for _, w := range widths() {
			if v == w {
				continue
			}
			for _, a := range samples(v) {
				for _, b := range samples(w) {
					for _, op := range binOps() {
						if got, want := bvec.Bin(op, a, b), model(op, a, b); got != want {
							t.Fatal(op, a, b, got, want)
						}
					}
				}
			}
		}
	}
}

func TestBinByHand(t *testing.T) {
	for _, c := range [][5]int{
		{api.OpDivs, 8, -7, 2, -3}, {api.OpRems, 8, -7, 2, -1}, {api.OpDivs, 8, -128, -1, -128}, {api.OpRems, 8, -128, -1, 0},
		{api.OpDivs, 8, 7, -2, -3}, {api.OpRems, 8, 7, -2, 1}, {api.OpDivs, 8, -7, -2, 3}, {api.OpRems, 8, -7, -2, -1},
		{api.OpSar, 8, 0x80, 9, 0xff}, {api.OpSar, 8, 0x40, 9, 0}, {api.OpSar, 8, 0x80, 8, 0xff}, {api.OpSar, 8, 0x80, 0, 0x80},
		{api.OpShl, 8, 0x81, 7, 0x80}, {api.OpShl, 8, 0x81, 8, 0}, {api.OpShr, 8, 0x81, 7, 1}, {api.OpShr, 8, 0x81, 8, 0},
		{api.OpDivu, 8, 5, 0, 255}, {api.OpRemu, 8, 5, 0, 5}, {api.OpDivs, 8, 5, 0, 255}, {api.OpRems, 8, 5, 0, 5}, {api.OpDivs, 8, -5, 0, 255}, {api.OpRems, 8, -5, 0, -5},
		{api.OpDivs, 64, math.MinInt, -1, math.MinInt}, {api.OpRems, 64, math.MinInt, -1, 0}, {api.OpDivs, 1, 1, 1, 1},
		{api.OpAdd, 8, 255, 1, 0}, {api.OpSub, 8, 0, 1, 255}, {api.OpMul, 8, 16, 16, 0}, {api.OpAnd, 8, 12, 10, 8}, {api.OpOr, 8, 12, 10, 14}, {api.OpXor, 8, 12, 10, 6},
	} {
		if got := bvec.Bin(c[0], bvec.FromInt(c[1], c[2]), bvec.FromInt(c[1], c[3])); got != bvec.FromInt(c[1], c[4]) {
			t.Error(c, got)
		}
	}
	least := api.Bits{W: 128, Hi: 1 << 63}
	if got := bvec.Bin(api.OpDivs, least, bvec.FromInt(128, -1)); got != least {
		t.Error(got)
	}
	if got := bvec.Bin(api.OpRems, least, bvec.FromInt(128, -1)); got != (api.Bits{W: 128}) {
		t.Error(got)
	}
}

func TestShiftByFarMore(t *testing.T) {
	a := bvec.FromInt(128, -5)
	for _, by := range []api.Bits{{W: 128, Hi: 1}, {W: 128, Hi: 1 << 63, Lo: 1}, {W: 64, Lo: 1 << 63}, {W: 64, Lo: math.MaxUint64}, {W: 8, Lo: 128}} {
		if got := bvec.Bin(api.OpShl, a, by); got != (api.Bits{W: 128}) {
			t.Error("shl", by, got)
		}
		if got := bvec.Bin(api.OpShr, a, by); got != (api.Bits{W: 128}) {
			t.Error("shr", by, got)
		}
		if got := bvec.Bin(api.OpSar, a, by); got != bvec.FromInt(128, -1) {
			t.Error("sar", by, got)
		}
	}
}

func TestCat(t *testing.T) {
	if got := bvec.Bin(api.OpCat, bvec.FromInt(4, 10), bvec.FromInt(8, 7)); got != (api.Bits{W: 12, Lo: 0xa07}) {
		t.Error(got)
	}
	if got := bvec.Bin(api.OpCat, bvec.FromInt(64, 1), bvec.FromInt(64, 2)); got != (api.Bits{W: 128, Hi: 1, Lo: 2}) {
		t.Error(got)
	}
	for _, c := range [][2]int{{128, 1}, {1, 128}, {65, 64}, {128, 128}} {
		if got := bvec.Bin(api.OpCat, bvec.FromInt(c[0], 1), bvec.FromInt(c[1], 1)); got != (api.Bits{}) {
			t.Error(c, got)
		}
	}
}

func TestBinRefused(t *testing.T) {
	good := bvec.FromInt(8, 5)
	for _, op := range binOps() {
		for _, a := range odd() {
			if bvec.Bin(op, a, good) != (api.Bits{}) || bvec.Bin(op, good, a) != (api.Bits{}) || bvec.Bin(op, a, a) != (api.Bits{}) {
				t.Error(op, a)
			}
		}
		other := bvec.Bin(op, good, bvec.FromInt(9, 5))
		may := op == api.OpShl || op == api.OpShr || op == api.OpSar || op == api.OpCat
		if may != (other != api.Bits{}) {
			t.Error(op, other)
		}
	}
	ops := []int{math.MinInt, -1, 0, math.MaxInt}
	for op := api.OpNot; op < 60; op++ {
		ops = append(ops, op)
	}
	for _, op := range ops {
		if got := bvec.Bin(op, good, good); got != (api.Bits{}) {
			t.Error(op, got)
		}
	}
}

// P1.5

func TestInt(t *testing.T) {
	for w := 1; w <= 128; w++ {
		for _, a := range samples(w) {
			n, ok := bvec.Int(a)
			s := sval(a)
			if ok != s.IsInt64() || ok && int64(n) != s.Int64() || !ok && n != 0 {
				t.Fatal(a, n, ok)
			}
		}
	}
	for _, n := range numbers() {
		for w := 64; w <= 128; w++ {
			if got, ok := bvec.Int(bvec.FromInt(w, n)); got != n || !ok {
				t.Fatal(w, n, got, ok)
			}
		}
	}
	for _, a := range append(odd(), api.Bits{W: 65, Lo: 1 << 63}, api.Bits{W: 65, Hi: 1, Lo: 1<<63 - 1}, api.Bits{W: 128, Hi: 1}) {
		if n, ok := bvec.Int(a); n != 0 || ok {
			t.Error(a, n, ok)
		}
	}
}

func TestFits(t *testing.T) {
	ws := []int{200, 1 << 20, math.MaxInt}
	for w := 1; w <= 130; w++ {
		ws = append(ws, w)
	}
	for _, w := range ws {
		m := min(w, 70)
		for _, at := range []int{0, 1, 5, 8, 31, 32, 61, 62, 63} {
			for _, n := range []int{1 << at, 1<<at - 1, 1<<at + 1, -1 << at, -1<<at - 1, -1<<at + 1} {
				v := big.NewInt(int64(n))
				if got, want := bvec.FitsU(n, w), n >= 0 && v.Cmp(two(m)) < 0; got != want {
					t.Fatal("FitsU", n, w, got)
				}
				if got, want := bvec.FitsS(n, w), v.Cmp(two(m-1)) < 0 && v.Cmp(new(big.Int).Neg(two(m-1))) >= 0; got != want {
					t.Fatal("FitsS", n, w, got)
				}
			}
		}
	}
	for _, w := range []int{0, -1, -64, math.MinInt} {
		for _, n := range numbers() {
			if bvec.FitsU(n, w) || bvec.FitsS(n, w) {
				t.Error(n, w)
			}
		}
	}
}

// P1 and P2

// TestAnyArguments: no call panics, each answers normal or zero bits, and the same when asked again.
func TestAnyArguments(t *testing.T) {
	all := append(odd(), bvec.FromInt(1, 1), bvec.FromInt(8, -1), bvec.FromInt(64, -1), bvec.FromInt(128, -1), bvec.FromInt(128, 0))
	asked := func() []api.Bits {
		var out []api.Bits
		for _, a := range all {
			for _, n := range numbers() {
				out = append(out, bvec.Make(n, a.Hi, a.Lo), bvec.FromInt(a.W, n), bvec.Zext(a, n), bvec.Sext(a, n), bvec.Un(n, a))
				for _, b := range all {
					out = append(out, bvec.Insert(a, n, b), bvec.Bin(n, a, b))
				}
				for _, m := range numbers() {
					out = append(out, bvec.Extract(a, n, m))
				}
			}
		}
		return out
	}
	first, again := asked(), asked()
	for n, a := range first {
		if a != (api.Bits{}) && !isNormal(a) {
			t.Fatal(n, a)
		}
		if a != again[n] {
			t.Fatal(n, a, again[n])
		}
	}
}
