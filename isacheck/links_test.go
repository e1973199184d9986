package isacheck_test

import (
	"math"
	"strconv"
	"testing"

	"dovetail/api"
)

// P5.7

// withRel is a way to set a number of one of toy's relocations, which stands behind all others so that none uses it.
func withRel(rel int, set func(x *api.Rel, n int)) func(d *api.Desc, n int) {
	return func(d *api.Desc, n int) {
		x := d.Rels[rel]
		set(&x, n)
		d.Rels = append(d.Rels, x)
	}
}

var allRels = []int{relNone, relData, relInsn, relPair}

func TestKindsOfRels(t *testing.T) {
	// A relocation that has what all kinds but RelInsn need.
	all := func(d *api.Desc, n int) {
		d.Rels = append(d.Rels, api.Rel{Kind: n, Bytes: 1, Class: classHigh, Class2: classLow, Hi: -1, Calc: api.Term{Op: api.OpSym}})
	}
	bound(t, "Kind", all, []int{1, 2, 4}, []int{0, -1, 3, 5, 6}, -1, api.ErrCheck)
	insn := func(d *api.Desc, n int) {
		d.Rels = append(d.Rels, api.Rel{Kind: n, Bytes: 1, Class: classHigh, Class2: classLow, Calc: api.Term{Op: api.OpSym}})
	}
	bound(t, "Kind with Hi", insn, []int{3}, []int{0, -1, 1, 2, 4, 5, 6}, -1, api.ErrCheck)
}

func TestBytesOfRels(t *testing.T) {
	set := func(x *api.Rel, n int) { x.Bytes = n }
	bound(t, "Bytes of data", withRel(relData, set), []int{1, 2, 3, 4, 5, 6, 7, 8}, []int{0, -1, 9}, -1, api.ErrCheck)
}

// free holds that a number may be anything.
func free(t *testing.T, what string, set func(d *api.Desc, n int)) {
	t.Helper()
	for _, n := range append([]int{-2, -1, 0, 1, 2, 63, 64, 65}, far...) {
		d := toy()
		set(&d, n)
		checks(t, what+" "+strconv.Itoa(n), d, 0, api.OK)
	}
}

// TestUnusedFieldsOfRels: numbers that a kind doesn't name may be anything.
func TestUnusedFieldsOfRels(t *testing.T) {
	for _, r := range allRels {
		what := "relocation " + strconv.Itoa(r) + ": "
		free(t, what+"Num", withRel(r, func(x *api.Rel, n int) { x.Num = n }))
		if r != relData {
			free(t, what+"Bytes", withRel(r, func(x *api.Rel, n int) { x.Bytes = n }))
		}
		if r != relInsn {
			free(t, what+"Lo", withRel(r, func(x *api.Rel, n int) { x.Lo = n }))
		}
		if r == relNone || r == relData {
			free(t, what+"Class", withRel(r, func(x *api.Rel, n int) { x.Class = n }))
		}
		if r != relPair {
			free(t, what+"Class2", withRel(r, func(x *api.Rel, n int) { x.Class2 = n }))
		}
		free(t, what+"Width without Sign", withRel(r, func(x *api.Rel, n int) { x.Sign, x.Width = 0, n }))
	}
	free(t, "Calc of RelNone", withRel(relNone, func(x *api.Rel, n int) { x.Calc = api.Term{Op: n, W: n, A: n, Kids: []api.Term{{}}} }))
	free(t, "W and A of OpConst", withRel(relData, func(x *api.Rel, n int) { x.Calc = api.Term{Op: api.OpConst, W: n, A: n, B: n} }))
}

func TestClassesOfRels(t *testing.T) {
	set := func(x *api.Rel, n int) { x.Class, x.Hi, x.Lo = n, 0, 0 }
	bound(t, "Class of insn", withRel(relInsn, set), []int{classR, classW, classP, classU, classS, classPc, classNx, classHigh, classLow}, []int{-1, 9, 10}, -1, api.ErrCheck)
	set = func(x *api.Rel, n int) { x.Class = n }
	bound(t, "Class of pair", withRel(relPair, set), []int{classHigh}, []int{-1, classLow, classPc, classR, classS, 9}, -1, api.ErrCheck)
	set = func(x *api.Rel, n int) { x.Class2 = n }
	bound(t, "Class2 of pair", withRel(relPair, set), []int{classLow, classPc}, []int{-1, classHigh, classR, classS, 9}, -1, api.ErrCheck)
	for high := 1; high <= 30; high++ {
		for low := 1; low <= 30; low++ {
			d := toy()
			d.Classes = append(d.Classes, api.Class{Kind: api.ClassUns, Bits: high}, api.Class{Kind: api.ClassNext, Bits: low})
			d.Rels = append(d.Rels, api.Rel{Kind: api.RelPair, Class: 9, Class2: 10, Hi: -1, Calc: api.Term{Op: api.OpSym}})
			place, want := -1, api.ErrCheck
			if high == 20 && low == 12 {
				place, want = 0, api.OK
			}
			checks(t, strconv.Itoa(high)+" "+strconv.Itoa(low), d, place, want)
		}
	}
}

func TestSlices(t *testing.T) {
	places := append([]int{-2, -1, 0, 1, 2, 10, 11, 12, 13, 31, 32, 50, 51, 52, 61, 62, 63, 64, 65}, far...)
	for class, most := range map[int]int{classR: 2, classLow: 12, classHigh: 20, 9: 64, 10: 63} {
		for _, hi := range places {
			for _, lo := range places {
				d := toy()
				d.Classes = append(d.Classes, api.Class{Kind: api.ClassSgn, Bits: 64}, api.Class{Kind: api.ClassSgn, Bits: 63})
				d.Rels = append(d.Rels, api.Rel{Kind: api.RelInsn, Class: class, Hi: hi, Lo: lo, Calc: api.Term{Op: api.OpSym}})
				place, want := -1, api.ErrCheck
				if 0 <= lo && lo <= hi && hi <= 63 && hi-lo+1 <= most {
					place, want = 0, api.OK
				}
				checks(t, "slice "+strconv.Itoa(hi)+" "+strconv.Itoa(lo)+" of "+strconv.Itoa(most), d, place, want)
			}
		}
	}
	for _, r := range []int{relNone, relData, relPair} {
		bound(t, "Hi of others", withRel(r, func(x *api.Rel, n int) { x.Hi = n }), []int{-1}, []int{-2, 0, 1, 11, 63}, -1, api.ErrCheck)
	}
}

// TestChecksOfRels: of every kind, RelNone too.
func TestChecksOfRels(t *testing.T) {
	for _, r := range allRels {
		what := "relocation " + strconv.Itoa(r) + ": "
		sign := func(x *api.Rel, n int) { x.Sign, x.Width = n, 32 }
		bound(t, what+"Sign", withRel(r, sign), []int{0, 1, 2, 3}, []int{-1, 4}, -1, api.ErrCheck)
		for s := 1; s <= 3; s++ {
			width := func(x *api.Rel, n int) { x.Sign, x.Width = s, n }
			bound(t, what+"Width", withRel(r, width), []int{1, 2, 32, 63, 64}, []int{0, -1, 65}, -1, api.ErrCheck)
		}
		align := func(x *api.Rel, n int) { x.Align = n }
		bound(t, what+"Align", withRel(r, align), []int{0, 1, 2, 29, 30}, []int{-1, 31, 63, 64}, -1, api.ErrCheck)
		for _, n := range []int{0, 1, 2048, 1<<31 - 1, 1 << 31, 1<<32 - 1, 1 << 32} {
			d := toy()
			withRel(r, func(x *api.Rel, n int) { x.Round = n })(&d, n)
			checks(t, what+"Round "+strconv.Itoa(n), d, 0, api.OK)
		}
		for _, n := range []int{-1, -2048, 1<<32 + 1, 1 << 33, math.MinInt, math.MaxInt} {
			d := toy()
			withRel(r, func(x *api.Rel, n int) { x.Round = n })(&d, n)
			checks(t, what+"Round "+strconv.Itoa(n), d, -1, api.ErrCheck)
		}
	}
}

// formula holds whether a formula is right, of each kind of relocations that has one, and within others.
func formula(t *testing.T, what string, calc api.Term, right bool) {
	t.Helper()
	place, want := 0, api.OK
	if !right {
		place, want = -1, api.ErrCheck
	}
	sym := api.Term{Op: api.OpSym}
	for _, whole := range []api.Term{calc, op(api.OpAdd, calc, sym), op(api.OpSub, sym, calc), op(api.OpPage, calc), op(api.OpAdd, sym, op(api.OpPage, op(api.OpSub, calc, sym)))} {
		for _, r := range []int{relData, relInsn, relPair} {
			d := toy()
			withRel(r, func(x *api.Rel, _ int) { x.Calc = whole })(&d, 0)
			checks(t, what, d, place, want)
		}
		d := toy()
		withRel(relNone, func(x *api.Rel, _ int) { x.Calc = whole })(&d, 0)
		checks(t, what+" of RelNone", d, 0, api.OK)
	}
}

// TestFormulas: every operation with up to four parts.
func TestFormulas(t *testing.T) {
	kids := map[int]int{20: 0, 38: 0, 39: 0, 40: 0, 41: 0, 42: 0, 44: 0, 43: 1, 1: 2, 2: 2}
	ops := append([]int{-2, -1}, far...)
	for o := range 64 {
		ops = append(ops, o)
	}
	for _, o := range ops {
		var parts []api.Term
		for n := range 5 {
			most, is := kids[o]
			formula(t, strconv.Itoa(o)+" of "+strconv.Itoa(n), op(o, parts...), is && most == n)
			parts = append(parts, api.Term{Op: []int{api.OpAddend, api.OpConst, api.OpGotTp, api.OpTp, api.OpPlace}[n]})
		}
	}
	formula(t, "a term of layer 5", op(api.OpAdd, api.Term{Op: api.OpPc}, api.Term{Op: api.OpSym}), false)
	formula(t, "the zero term", api.Term{}, false)
}

// TestDeepFormulas: one wrong part, however deep, makes a formula wrong.
func TestDeepFormulas(t *testing.T) {
	for _, o := range []int{api.OpSym, api.OpPc} {
		calc := api.Term{Op: o}
		for range 1<<16 - 2 {
			calc = op(api.OpPage, calc)
		}
		d := toy()
		d.Rels[relData].Calc = calc
		place, want := 0, api.OK
		if o == api.OpPc {
			place, want = -1, api.ErrCheck
		}
		checks(t, strconv.Itoa(o), d, place, want)
	}
}

func TestUses(t *testing.T) {
	class := func(d *api.Desc, n int) { d.Uses = append(d.Uses, api.Use{Class: n, Rel: relData}) }
	bound(t, "class of data", class, []int{0, 1, 2, 3, 4, 5, 6, 7, 8}, []int{-1, 9}, -1, api.ErrCheck)
	class = func(d *api.Desc, n int) { d.Uses = append(d.Uses, api.Use{Class: n, Rel: relInsn}) }
	bound(t, "class of insn", class, []int{classLow}, []int{-1, 0, 1, 2, 3, 4, 5, 6, 7, 9}, -1, api.ErrCheck)
	class = func(d *api.Desc, n int) { d.Uses = append(d.Uses, api.Use{Class: n, Rel: relPair}) }
	bound(t, "class of pair", class, []int{0, 1, 2, 3, 4, 5, 6, 7, 8}, []int{-1, 9}, -1, api.ErrCheck)
	rel := func(d *api.Desc, n int) { d.Uses = append(d.Uses, api.Use{Class: classLow, Rel: n}) }
	bound(t, "relocation", rel, []int{relData, relInsn, relPair}, []int{relNone, -1, 4, 5}, -1, api.ErrCheck)
	rel = func(d *api.Desc, n int) { d.Uses = append(d.Uses, api.Use{Class: classHigh, Rel: n}) }
	bound(t, "relocation", rel, []int{relData, relPair}, []int{relNone, relInsn, -1, 4, 5}, -1, api.ErrCheck)
	d := toy()
	d.Uses = append(d.Uses, d.Uses[0], api.Use{Mod: "\x00", Class: classLow, Rel: relInsn, End: true})
	checks(t, "the same twice, any Mod", d, 0, api.OK)
	d.Rels = nil
	d.Relaxes, d.Macros = nil, nil
	checks(t, "uses without relocations", d, -1, api.ErrCheck)
	d.Uses = nil
	checks(t, "no uses", d, 0, api.OK)
}

func TestRelaxes(t *testing.T) {
	rel := func(d *api.Desc, n int) {
		d.Relaxes = append(d.Relaxes, api.Relaxed{Rel: n, Form: formLow, To: relInsn})
	}
	bound(t, "Rel", rel, []int{relPair}, []int{relNone, relData, relInsn, -1, 4}, -1, api.ErrCheck)
	to := func(d *api.Desc, n int) {
		d.Relaxes = append(d.Relaxes, api.Relaxed{Rel: relPair, Form: formLow, To: n})
	}
	bound(t, "To", to, []int{relInsn}, []int{relNone, relData, relPair, -1, 4}, -1, api.ErrCheck)
	form := func(d *api.Desc, n int) {
		d.Relaxes = append(d.Relaxes, api.Relaxed{Rel: relPair, Form: n, To: relInsn})
	}
	bound(t, "Form", form, []int{formLow}, []int{formInc, formNop, formPair, -1, 4}, -1, api.ErrCheck)
	for class, forms := range [][]int{{1, 0, 0, 0}, {0, 0, 1, 1}, {0, 0, 0, 0}, {0, 0, 0, 0}, {0, 0, 0, 0}, {0, 0, 0, 0}, {0, 0, 0, 0}, {0, 0, 1, 0}, {0, 0, 0, 1}} {
		for form, has := range forms {
			d := toy()
			d.Rels = append(d.Rels, api.Rel{Kind: api.RelInsn, Class: class, Calc: api.Term{Op: api.OpSym}})
			d.Relaxes = append(d.Relaxes, api.Relaxed{Rel: relPair, Form: form, To: 4})
			place, want := -1, api.ErrCheck
			if has == 1 {
				place, want = 0, api.OK
			}
			checks(t, "class "+strconv.Itoa(class)+" of form "+strconv.Itoa(form), d, place, want)
		}
	}
}

func TestMacros(t *testing.T) {
	rel := func(d *api.Desc, n int) { d.Macros = append(d.Macros, api.Macro{Rel: n}) }
	bound(t, "Rel", rel, []int{-1, relData, relInsn, relPair}, []int{relNone, -2, 4, 5}, -1, api.ErrCheck)
}
