package isacheck_test

import (
	"math"
	"strconv"
	"testing"

	"dovetail/api"
	"dovetail/isacheck"
	"dovetail/isadl"
)

// konst is a term of a width; of none, if that is 0.
func konst(w int) api.Term { return api.Term{Op: api.OpConst, W: w} }

// op is a term of an operation and parts.
func op(o int, kids ...api.Term) api.Term { return api.Term{Op: o, Kids: kids} }

// typed is toy with one form more, behind the others, of operands of all classes; that has one effect.
func typed(effect api.Term) api.Desc {
	d := toy()
	d.Forms = append(d.Forms, api.Form{
		Args:   ofClasses(classR, classW, classP, classU, classS),
		Pieces: []api.Piece{lit("11111111"), bits(0, 1, 0), bits(1, 3, 0), bits(2, 2, 0), bits(3, 4, 0), bits(4, 7, 0), lit("00"), lit("11111111")},
		Sem:    []api.Term{effect},
	})
	return d
}

const formTyped = formLow + 1

// widths holds a term's width, and whether Check takes it in an effect.
func widths(t *testing.T, what string, term api.Term, want int) {
	t.Helper()
	if w := isacheck.Width(typed(term), formTyped, term); w != want {
		t.Errorf("%s: %d, not %d", what, w, want)
	}
	// A term of any width is brought to 64 bits and set.
	d := typed(api.Term{Op: api.OpSet, A: fileY, B: -1, Kids: []api.Term{{Op: api.OpZx, W: 64, Kids: []api.Term{term}}}})
	if want > 0 {
		checks(t, what, d, 0, api.OK)
	} else {
		checks(t, what, d, formTyped, api.ErrType)
	}
}

// P5.4, terms

// TestWidthByHand: terms as layer 4 reads them.
func TestWidthByHand(t *testing.T) {
	for _, c := range []struct {
		term string
		want int
	}{
		{"(c 8 1)", 8}, {"(c 1 999)", 1}, {"(c 128 -1)", 128}, {"(c 0 1)", 0}, {"(c 129 1)", 0},
		{"pc", 64}, {"next", 64},
		{"(x d)", 8}, {"(x 0)", 8}, {"(x 3)", 8}, {"(x 4)", 0}, {"(x i)", 0}, {"(x s)", 0},
		{"(y s)", 64}, {"(y 15)", 64}, {"(y 16)", 0}, {"(y d)", 0}, {"(v 63)", 1}, {"(v 64)", 0},
		{"(imm i 1)", 1}, {"(imm i 128)", 128}, {"(imm i 0)", 0}, {"(imm i 129)", 0}, {"(imm d 8)", 0},
		{"(flag z)", 1}, {"(flag n)", 1},
		{"(add (x d) (c 8 1))", 8}, {"(add (x d) (c 9 1))", 0}, {"(mul pc next)", 64}, {"(rems (c 128 1) (c 128 2))", 128},
		{"(shl (x d) pc)", 8}, {"(sar pc (x d))", 64}, {"(shr (c 128 1) (c 1 1))", 128}, {"(shl (x d) (c 0 1))", 0}, {"(shl (c 0 1) (x d))", 0},
		{"(eq pc next)", 1}, {"(ltu (x d) (c 8 0))", 1}, {"(lts (x d) pc)", 0}, {"(eq (c 0 0) (c 0 0))", 0},
		{"(cat (x d) (x 3))", 16}, {"(cat pc next)", 128}, {"(cat (cat pc next) (flag z))", 0}, {"(cat (c 127 0) (flag z))", 128}, {"(cat (c 0 0) pc)", 0},
		{"(not (x d))", 8}, {"(neg (c 128 1))", 128}, {"(not (c 0 1))", 0},
		{"(ld 8 pc)", 8}, {"(ld 64 (y s))", 64}, {"(ld 24 pc)", 0}, {"(ld 128 pc)", 0}, {"(ld 0 pc)", 0}, {"(ld 8 (x d))", 0}, {"(ld 8 (c 65 0))", 0},
		{"(if (flag z) (x d) (x 1))", 8}, {"(if (flag z) (x d) pc)", 0}, {"(if (x d) pc pc)", 0}, {"(if (c 2 0) pc pc)", 0}, {"(if (flag z) (c 0 0) (c 0 0))", 0},
		{"(sx 64 (x d))", 64}, {"(sx 1 pc)", 1}, {"(zx 128 pc)", 128}, {"(sx 0 pc)", 0}, {"(zx 129 pc)", 0}, {"(zx 8 (c 0 0))", 0},
		{"(ex 15 8 (cat (x d) (x 3)))", 8}, {"(ex 0 0 (flag z))", 1}, {"(ex 63 0 pc)", 64}, {"(ex 64 0 pc)", 0}, {"(ex 127 64 (cat pc pc))", 64}, {"(ex 3 4 pc)", 0}, {"(ex 1 1 (flag z))", 0},
		{"(if (flag z) (ex 15 8 (cat (x d) (x 3))) (sx 8 (c 3 1)))", 8},
		{"(add (add (add (add pc (c 64 1)) pc) (c 64 1)) (zx 64 (eq pc (not (neg (ld 64 pc))))))", 64},
		{"(add (add (add (add pc (c 64 1)) pc) (c 64 1)) (zx 64 (eq pc (not (neg (ld 65 pc))))))", 0},
	} {
		d := read("(isa toy bytes) (file x 4 8) (file y 16 64) (file v 64 1) (flag z) (flag n) (class r reg x 2) (class w reg y 4) (class s sgn 10) (form f \"f\" ((d r) (s w) (i s)) (d s i) ((jump " + c.term + ")))")
		if w := isacheck.Width(d, 0, d.Forms[0].Sem[0].Kids[0]); w != c.want {
			t.Errorf("%s: %d, not %d", c.term, w, c.want)
		}
	}
}

// TestWidthsByNumber: W of the operations that have one, A and B of OpEx.
func TestWidthsByNumber(t *testing.T) {
	for _, w := range append([]int{-129, -128, -64, -8, -1, 0, 1, 2, 7, 8, 9, 15, 16, 17, 24, 31, 32, 33, 48, 63, 64, 65, 72, 127, 128, 129, 130, 256}, far...) {
		free, stored := 0, 0
		if w >= 1 && w <= 128 {
			free = w
		}
		if w == 8 || w == 16 || w == 32 || w == 64 {
			stored = w
		}
		what := strconv.Itoa(w)
		widths(t, "const "+what, api.Term{Op: api.OpConst, W: w, A: math.MinInt, B: math.MaxInt}, free)
		widths(t, "arg "+what, api.Term{Op: api.OpArg, W: w, A: 3}, free)
		widths(t, "load "+what, api.Term{Op: api.OpLoad, W: w, Kids: []api.Term{konst(64)}}, stored)
		for _, k := range []int{1, 8, 64, 128} {
			widths(t, "sx "+what, api.Term{Op: api.OpSx, W: w, Kids: []api.Term{konst(k)}}, free)
			widths(t, "zx "+what, api.Term{Op: api.OpZx, W: w, Kids: []api.Term{konst(k)}}, free)
		}
	}
}

func TestExtractWidths(t *testing.T) {
	places := append([]int{-2, -1, 0, 1, 2, 7, 8, 9, 63, 64, 65, 126, 127, 128, 129}, far...)
	for _, w := range []int{0, 1, 2, 8, 64, 128} {
		for _, hi := range places {
			for _, lo := range places {
				want := 0
				if 0 <= lo && lo <= hi && hi < w {
					want = hi - lo + 1
				}
				term := api.Term{Op: api.OpEx, A: hi, B: lo, Kids: []api.Term{konst(w)}}
				if n := isacheck.Width(toy(), 0, term); n != want {
					t.Errorf("ex %d %d of %d: %d, not %d", hi, lo, w, n, want)
				}
			}
		}
	}
}

// TestCatWidths: the sum, up to 128.
func TestCatWidths(t *testing.T) {
	d := toy()
	for a := range 130 {
		for b := range 130 {
			want := 0
			if a >= 1 && b >= 1 && a+b <= 128 {
				want = a + b
			}
			if n := isacheck.Width(d, 0, op(api.OpCat, konst(a), konst(b))); n != want {
				t.Errorf("cat of %d and %d: %d, not %d", a, b, n, want)
			}
		}
	}
}

// rule is what an operation makes of its parts' widths; 0, if they are wrong. W of the term is w.
type rule struct {
	first, last int
	kids        int
	width       func(w int, kids []int) int
}

func same(_ int, kids []int) int {
	if kids[0] == kids[1] {
		return kids[0]
	}
	return 0
}

func compared(_ int, kids []int) int {
	if kids[0] == kids[1] {
		return 1
	}
	return 0
}

func firstOf(_ int, kids []int) int { return kids[0] }

func told(w int, _ []int) int { return w }

// rules are those of the operations that have parts, as the chapter lists them.
var rules = []rule{
	{1, 6, 2, same},
	{10, 13, 2, same},
	{7, 9, 2, firstOf},
	{14, 16, 2, compared},
	{17, 17, 2, func(_ int, kids []int) int {
		if kids[0]+kids[1] <= 128 {
			return kids[0] + kids[1]
		}
		return 0
	}},
	{18, 19, 1, firstOf},
	{20, 20, 0, told},
	{23, 24, 0, func(int, []int) int { return 64 }},
	{26, 26, 1, func(w int, kids []int) int {
		if kids[0] == 64 && w%8 == 0 && w <= 64 && w != 24 {
			return w
		}
		return 0
	}},
	{27, 27, 3, func(_ int, kids []int) int {
		if kids[0] == 1 && kids[1] == kids[2] {
			return kids[1]
		}
		return 0
	}},
	{28, 29, 1, told},
}

// wanted is the width of a term by the rules, of parts with some widths.
func wanted(o, w int, kids []int) int {
	for _, r := range rules {
		if o < r.first || o > r.last || len(kids) != r.kids {
			continue
		}
		for _, k := range kids {
			if k == 0 {
				return 0
			}
		}
		return r.width(w, kids)
	}
	return 0
}

// TestEveryOperation: all operations, and others, with all lists of up to four parts of some widths. (A term of OpReg, OpArg, OpFlag or OpEx has no width here: A is too great.)
func TestEveryOperation(t *testing.T) {
	d := toy()
	var lists [][]int
	for from, n := 0, 0; n <= 4; n++ {
		if n == 0 {
			lists = append(lists, nil)
			continue
		}
		to := len(lists)
		for ; from < to; from++ {
			for _, w := range []int{0, 1, 8, 64, 65, 128} {
				lists = append(lists, append(append([]int{}, lists[from]...), w))
			}
		}
	}
	ops := append([]int{-2, -1}, far...)
	for o := range 64 {
		ops = append(ops, o)
	}
	for _, l := range lists {
		var kids []api.Term
		for _, w := range l {
			kids = append(kids, konst(w))
		}
		for _, o := range ops {
			for _, w := range []int{8, 24, 64, 128} {
				term := api.Term{Op: o, W: w, A: 1000, B: 1000, Kids: kids}
				if n, want := isacheck.Width(d, formInc, term), wanted(o, w, l); n != want {
					t.Fatalf("%d %d %v: %d, not %d", o, w, l, n, want)
				}
			}
		}
	}
}

// TestManyKids: very many parts are never as many as told.
func TestManyKids(t *testing.T) {
	kids := make([]api.Term, 1<<16)
	for n := range kids {
		kids[n] = konst(1)
	}
	for o := range 64 {
		if w := isacheck.Width(toy(), 0, api.Term{Op: o, W: 8, Kids: kids}); w != 0 {
			t.Error(o, w)
		}
	}
}

// TestLeavesHaveNoKids: a part, right or wrong, makes a term without parts wrong.
func TestLeavesHaveNoKids(t *testing.T) {
	for _, term := range []api.Term{konst(8), {Op: api.OpReg, A: fileY, B: -1}, {Op: api.OpArg, A: 3, W: 8}, {Op: api.OpPc}, {Op: api.OpNext}, {Op: api.OpFlag}} {
		what := strconv.Itoa(term.Op)
		if isacheck.Width(typed(term), formTyped, term) == 0 {
			t.Error(what)
		}
		for _, k := range []int{0, 1, 64} {
			term.Kids = []api.Term{konst(k)}
			widths(t, what, term, 0)
		}
	}
}

// TestWrongWithin: one wrong part, however deep, makes a term wrong.
func TestWrongWithin(t *testing.T) {
	for _, deep := range []int{1, 2, 30, 1000, 1<<16 - 4} {
		for _, w := range []int{0, 1} {
			term := konst(w)
			for range deep {
				term = op(api.OpNot, term)
			}
			widths(t, strconv.Itoa(deep), term, w)
			widths(t, strconv.Itoa(deep), op(api.OpShl, konst(8), term), 8*w)
			widths(t, strconv.Itoa(deep), api.Term{Op: api.OpZx, W: 8, Kids: []api.Term{term}}, 8*w)
		}
	}
}

// register is a term, or an effect's place, of a register.
func register(a, b int) api.Term { return api.Term{Op: api.OpReg, A: a, B: b} }

func TestRegisterWidths(t *testing.T) {
	of := map[int]int{0: fileX, 1: fileY, 2: fileY} // the operands that are registers, and their files
	files := toy().Files
	numbers := append([]int{-66, -65, -64, -63, -17, -16, -5, -4, -3, -2, -1, 0, 1, 2, 3, 4, 5, 6}, far...)
	for _, a := range append([]int{-1, 0, 1, 2, 3, 4}, far...) {
		for _, b := range numbers {
			want := 0
			if a >= 0 && a < len(files) {
				if f, is := of[b]; is && f == a || b < 0 && -1-b < files[a].Count {
					want = files[a].Width
				}
			}
			widths(t, "register "+strconv.Itoa(a)+" "+strconv.Itoa(b), register(a, b), want)
			effects(t, "set "+strconv.Itoa(a)+" "+strconv.Itoa(b), api.Term{Op: api.OpSet, A: a, B: b, Kids: []api.Term{konst(max(want, 1))}}, want > 0)
		}
	}
}

// TestRegisterOfWrongFile: A must be a right file.
func TestRegisterOfWrongFile(t *testing.T) {
	for _, f := range []api.File{{}, {Count: 64, Width: 65}, {Count: 65, Width: 64}, {Count: 4, Width: 8, Zero: 4}, {Count: 4, Width: 8, Zero: -2}, {Count: math.MaxInt, Width: 8}, {Count: math.MinInt, Width: 8}, {Count: 4, Width: math.MinInt}} {
		d := toy()
		d.Files[fileX] = f
		for _, b := range []int{0, -1, -2, math.MinInt, math.MaxInt} {
			if w := isacheck.Width(d, formInc, register(fileX, b)); w != 0 {
				t.Errorf("%+v %d: %d", f, b, w)
			}
		}
		if w := isacheck.Width(d, formPair, register(fileY, 0)); w != 64 {
			t.Errorf("%+v: another file: %d", f, w)
		}
	}
}

func TestArgWidths(t *testing.T) {
	for _, a := range append([]int{-2, -1, 0, 1, 2, 3, 4, 5, 6}, far...) {
		want := 0
		if a == 3 || a == 4 {
			want = 32
		}
		widths(t, "arg "+strconv.Itoa(a), api.Term{Op: api.OpArg, A: a, W: 32}, want)
	}
	for kind, want := range map[int]int{api.ClassReg: 0, api.ClassUns: 32, api.ClassSgn: 32, api.ClassPc: 32, api.ClassNext: 32} {
		d := toy()
		d.Classes[classHigh].Kind = kind
		if w := isacheck.Width(d, formPair, api.Term{Op: api.OpArg, A: 1, W: 32}); w != want {
			t.Error(kind, w)
		}
	}
}

// TestOperandsWithoutClass: an operand whose class isn't there is neither a register nor a number.
func TestOperandsWithoutClass(t *testing.T) {
	for _, c := range append([]int{-1, len(toy().Classes)}, far...) {
		d := toy()
		d.Forms[formInc].Args[0].Class = c
		if w := isacheck.Width(d, formInc, register(fileX, 0)); w != 0 {
			t.Error("register", c, w)
		}
		if w := isacheck.Width(d, formInc, api.Term{Op: api.OpArg, A: 0, W: 8}); w != 0 {
			t.Error("arg", c, w)
		}
		if w := isacheck.Width(d, formInc, register(fileX, -1)); w != 8 {
			t.Error("another register", c, w)
		}
	}
}

func TestFlagWidths(t *testing.T) {
	for _, a := range append([]int{-2, -1, 0, 1, 2, 3}, far...) {
		want := 0
		if a == 0 || a == 1 {
			want = 1
		}
		widths(t, "flag "+strconv.Itoa(a), api.Term{Op: api.OpFlag, A: a}, want)
		effects(t, "set flag "+strconv.Itoa(a), api.Term{Op: api.OpSetFlag, A: a, Kids: []api.Term{konst(1)}}, want == 1)
	}
	d := toy()
	d.Flags = nil
	if w := isacheck.Width(d, 0, api.Term{Op: api.OpFlag}); w != 0 {
		t.Error("of no flags", w)
	}
}

// TestUnusedFieldsOfTerms: fields that an operation doesn't name may be anything.
func TestUnusedFieldsOfTerms(t *testing.T) {
	for _, n := range far {
		widths(t, "add", api.Term{Op: api.OpAdd, W: n, A: n, B: n, Kids: []api.Term{konst(8), konst(8)}}, 8)
		widths(t, "eq", api.Term{Op: api.OpEq, W: n, A: n, B: n, Kids: []api.Term{konst(8), konst(8)}}, 1)
		widths(t, "cat", api.Term{Op: api.OpCat, W: n, A: n, B: n, Kids: []api.Term{konst(8), konst(8)}}, 16)
		widths(t, "neg", api.Term{Op: api.OpNeg, W: n, A: n, B: n, Kids: []api.Term{konst(8)}}, 8)
		widths(t, "pc", api.Term{Op: api.OpPc, W: n, A: n, B: n}, 64)
		widths(t, "reg", api.Term{Op: api.OpReg, W: n, A: fileX}, 8)
		widths(t, "flag", api.Term{Op: api.OpFlag, W: n, A: 1, B: n}, 1)
		widths(t, "ex", api.Term{Op: api.OpEx, W: n, A: 1, Kids: []api.Term{konst(8)}}, 2)
		effects(t, "jump", api.Term{Op: api.OpJump, W: n, A: n, B: n, Kids: []api.Term{konst(64)}}, true)
		effects(t, "sys", api.Term{Op: api.OpSys, W: n, A: n, B: n}, true)
	}
}

func TestWidthNoPlace(t *testing.T) {
	term := api.Term{Op: api.OpPc}
	for n := range toy().Forms {
		if w := isacheck.Width(toy(), n, term); w != 64 {
			t.Error(n, w)
		}
	}
	for _, n := range append([]int{-1, len(toy().Forms), len(toy().Forms) + 1}, far...) {
		if w := isacheck.Width(toy(), n, term); w != 0 {
			t.Error(n, w)
		}
	}
	if isacheck.Width(api.Desc{}, 0, term) != 0 {
		t.Error("of no forms")
	}
}

// TestWidthByForm: operands are those of the form that is named.
func TestWidthByForm(t *testing.T) {
	imm := api.Term{Op: api.OpArg, A: 1, W: 32}
	for form, want := range []int{0, 0, 32, 32} {
		if w := isacheck.Width(toy(), form, imm); w != want {
			t.Error(form, w)
		}
	}
	for form, want := range []int{8, 0, 0, 0} {
		if w := isacheck.Width(toy(), form, register(fileX, 0)); w != want {
			t.Error(form, w)
		}
	}
}

// TestWidthOfOthers: what is wrong elsewhere in a description is nothing to a term's width.
func TestWidthOfOthers(t *testing.T) {
	for _, f := range faults {
		d := toy()
		f.put(&d)
		if isacheck.Width(d, formPair, register(fileY, 0)) != 64 || isacheck.Width(d, 0, konst(9)) != 9 {
			t.Error(f.what)
		}
	}
	d := toy()
	d.Forms[formPair].Pieces = nil
	if isacheck.Width(d, formPair, register(fileY, 0)) != 64 {
		t.Error("of a form with a wrong pattern")
	}
}

// P5.4, effects

// effects holds whether an effect is right, alone and within others; a right one has no width.
func effects(t *testing.T, what string, effect api.Term, right bool) {
	t.Helper()
	place, want := 0, api.OK
	if !right {
		place, want = formTyped, api.ErrType
	}
	checks(t, what, typed(effect), place, want)
	sys := api.Term{Op: api.OpSys}
	checks(t, what+" in a when", typed(op(api.OpWhen, konst(1), effect)), place, want)
	checks(t, what+" in two", typed(op(api.OpWhen, konst(1), sys, op(api.OpWhen, konst(1), sys, effect, sys), sys)), place, want)
	d := typed(sys)
	d.Forms[formTyped].Sem = []api.Term{sys, sys, effect, sys}
	checks(t, what+" among others", d, place, want)
	if w := isacheck.Width(d, formTyped, effect); right && w != 0 {
		t.Error(what, "has the width", w)
	}
}

// TestEffectsByHand: effects as layer 4 reads them.
func TestEffectsByHand(t *testing.T) {
	for _, c := range []struct {
		effect string
		right  bool
	}{
		{"(set (x d) (c 8 1))", true}, {"(set (x d) (c 9 1))", false}, {"(set (x d) (c 0 1))", false}, {"(set (x i) (c 8 1))", false}, {"(set (x s) (c 8 1))", false}, {"(set (x s) (c 64 1))", false},
		{"(set (x 3) (x d))", true}, {"(set (x 4) (x d))", false}, {"(set (x 4) (c 0 0))", false}, {"(set (y s) next)", true}, {"(set (v 0) (flag z))", true},
		{"(set (flag n) (flag z))", true}, {"(set (flag z) (c 1 1))", true}, {"(set (flag z) (c 2 1))", false}, {"(set (flag z) (c 0 1))", false},
		{"(st 8 pc (x d))", true}, {"(st 64 (y s) pc)", true}, {"(st 16 pc (x d))", false}, {"(st 8 (x d) pc)", false}, {"(st 24 pc (c 24 0))", false}, {"(st 128 pc (c 128 0))", false}, {"(st 0 pc (c 0 0))", false}, {"(st 8 (c 0 0) (x d))", false},
		{"(jump pc)", true}, {"(jump (x d))", false}, {"(jump (c 0 0))", false}, {"(jump (cat pc pc))", false},
		{"(trap 0)", false}, {"(trap 1)", true}, {"(trap 15)", true}, {"(trap 16)", false},
		{"(sys)", true},
		{"(when (flag z))", true}, {"(when (flag z) (sys))", true}, {"(when (flag z) (sys) (sys) (trap 0))", false}, {"(when (x d) (sys))", false}, {"(when (c 0 0) (sys))", false}, {"(when (x d))", false},
		{"(when (flag z) (when (flag n) (jump pc)))", true}, {"(when (flag z) (when (flag n) (jump (x d))))", false}, {"(when (flag z) (when pc (jump pc)))", false},
	} {
		place, want := 0, api.OK
		if !c.right {
			want = api.ErrType
		}
		d := read("(isa toy bytes) (file x 4 8) (file y 16 64) (file v 64 1) (flag z) (flag n) (class r reg x 2) (class w reg y 4) (class s sgn 10) (form f \"f\" ((d r) (s w) (i s)) (d s i) (" + c.effect + "))")
		checks(t, c.effect, d, place, want)
	}
}

// TestEffectsWithParts: every operation as an effect, with all lists of up to three parts of some widths.
func TestEffectsWithParts(t *testing.T) {
	d := typed(api.Term{})
	ws := []int{0, 1, 2, 8, 64}
	lists := [][]int{nil}
	for _, a := range ws {
		lists = append(lists, []int{a})
		for _, b := range ws {
			lists = append(lists, []int{a, b})
			for _, c := range ws {
				lists = append(lists, []int{a, b, c})
			}
		}
	}
	is := func(l []int, want ...int) bool {
		if len(l) != len(want) {
			return false
		}
		for n := range l {
			if l[n] != want[n] {
				return false
			}
		}
		return true
	}
	for _, l := range lists {
		var kids []api.Term
		for _, w := range l {
			kids = append(kids, konst(w))
		}
		for o := -1; o < 50; o++ {
			d.Forms[formTyped].Sem = []api.Term{{Op: o, W: 8, A: 1, B: -1, Kids: kids}}
			right := false
			switch o {
			case 31, 34:
				right = is(l, 64)
			case 32, 37:
				right = is(l, 1)
			case 33:
				right = is(l, 64, 8)
			case 35, 36:
				right = is(l)
			}
			place, want := 0, api.OK
			if !right {
				place, want = formTyped, api.ErrType
			}
			checks(t, strconv.Itoa(o)+" of "+strconv.Itoa(len(l)), d, place, want)
		}
	}
}

func TestEffectsByNumber(t *testing.T) {
	for _, n := range append([]int{-2, -1, 0, 1, 2, 8, 14, 15, 16, 17, 24, 32, 64, 65, 128}, far...) {
		what := strconv.Itoa(n)
		effects(t, "trap "+what, api.Term{Op: api.OpTrap, A: n}, n >= 1 && n <= 15)
		effects(t, "store "+what, api.Term{Op: api.OpStore, W: n, Kids: []api.Term{konst(64), konst(n)}}, n == 8 || n == 16 || n == 32 || n == 64)
		effects(t, "operation "+what, api.Term{Op: n, W: 8, Kids: nil}, false)
	}
	effects(t, "trap with a part", api.Term{Op: api.OpTrap, A: 1, Kids: []api.Term{konst(1)}}, false)
	effects(t, "sys with a part", api.Term{Op: api.OpSys, Kids: []api.Term{konst(1)}}, false)
	effects(t, "sys with a wrong part", api.Term{Op: api.OpSys, Kids: []api.Term{konst(0)}}, false)
}

// TestTermsAreNoEffects: a right term is none; nor are effects terms, where a term must stand.
func TestTermsAreNoEffects(t *testing.T) {
	for _, text := range []string{"pc", "(c 8 1)", "(x 0)", "(flag z)", "(add pc pc)", "(if (flag z) pc pc)"} {
		d := read("(isa toy bytes) (file x 4 8) (flag z) (form f \"f\" () (.00000000) ((jump " + text + ")))")
		effects(t, text, d.Forms[0].Sem[0].Kids[0], false)
	}
	for _, e := range []api.Term{{Op: api.OpSys}, {Op: api.OpTrap, A: 1}, op(api.OpJump, konst(64)), op(api.OpWhen, konst(1)), {Op: api.OpSetFlag, Kids: []api.Term{konst(1)}}} {
		what := strconv.Itoa(e.Op)
		widths(t, what, op(api.OpNot, e), 0)
		effects(t, what, op(api.OpWhen, e), false)
		effects(t, what, op(api.OpWhen, konst(1), konst(1), e), false)
	}
	for _, o := range []int{api.OpSym, api.OpAddend, api.OpPlace, api.OpGot, api.OpTp, api.OpPage, api.OpGotTp} {
		widths(t, "a formula's "+strconv.Itoa(o), api.Term{Op: o}, 0)
		effects(t, "a formula's "+strconv.Itoa(o), api.Term{Op: o}, false)
	}
}

// TestManyEffects: there may be any number of them, and they may lie deep.
func TestManyEffects(t *testing.T) {
	d := typed(api.Term{Op: api.OpSys})
	for range 1000 {
		d.Forms[formTyped].Sem = append(d.Forms[formTyped].Sem, op(api.OpWhen, konst(1), api.Term{Op: api.OpSys}))
	}
	checks(t, "many", d, 0, api.OK)
	d.Forms[formTyped].Sem = append(d.Forms[formTyped].Sem, op(api.OpWhen, konst(2)))
	checks(t, "many, the last wrong", d, formTyped, api.ErrType)
	for _, trap := range []int{15, 16} {
		deep := api.Term{Op: api.OpTrap, A: trap}
		for range 1<<16 - 4 {
			deep = op(api.OpWhen, konst(1), deep)
		}
		place, want := 0, api.OK
		if trap > 15 {
			place, want = formTyped, api.ErrType
		}
		checks(t, "deep", typed(deep), place, want)
	}
}

// TestPlacesOfEffects: Check tells the first form with a wrong effect.
func TestPlacesOfEffects(t *testing.T) {
	for n := range toy().Forms {
		d := toy()
		for k := n; k < len(d.Forms); k++ {
			d.Forms[k].Sem = append(d.Forms[k].Sem, api.Term{Op: api.OpTrap})
		}
		checks(t, "form "+strconv.Itoa(n), d, n, api.ErrType)
	}
}

// TestNoEffects: a form may have none.
func TestNoEffects(t *testing.T) {
	d, _, _ := isadl.Parse(`(isa toy word) (form f "f" () (.00000000) ())`)
	checks(t, "no effects", d, 0, api.OK)
}
