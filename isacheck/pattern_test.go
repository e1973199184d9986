package isacheck_test

import (
	"math"
	"strconv"
	"strings"
	"testing"

	"dovetail/api"
	"dovetail/isacheck"
)

// lit is a literal.
func lit(s string) api.Piece { return api.Piece{Arg: -1, Lit: s} }

// bits is some bits of an operand.
func bits(arg, hi, lo int) api.Piece { return api.Piece{Arg: arg, Hi: hi, Lo: lo} }

// ofClasses is operands of some classes of toy.
func ofClasses(classes ...int) []api.Arg {
	var l []api.Arg
	for _, c := range classes {
		l = append(l, api.Arg{Class: c})
	}
	return l
}

// patterned is toy with one form of a pattern; the form has no effects.
func patterned(args []api.Arg, pieces ...api.Piece) api.Desc {
	d := toy()
	d.Forms = []api.Form{{Args: args, Pieces: pieces}}
	d.Relaxes = nil
	return d
}

// sized holds how many bytes a pattern has; 0: it isn't right.
func sized(t *testing.T, what string, size int, args []api.Arg, pieces ...api.Piece) {
	t.Helper()
	d := patterned(args, pieces...)
	if n := isacheck.Size(d, 0); n != size {
		t.Errorf("%s: size %d, not %d", what, n, size)
	}
	if size > 0 {
		checks(t, what, d, 0, api.OK)
	} else {
		checks(t, what, d, 0, api.ErrPattern)
	}
}

// P5.3

func TestLiterals(t *testing.T) {
	for _, s := range []string{"00000000", "11111111", "xxxxxxxx", "01x01x01", "0000000x"} {
		sized(t, s, 1, nil, lit(s))
		for n := 1; n < len(s); n++ {
			sized(t, s+" in two", 1, nil, lit(s[:n]), lit(s[n:]))
		}
	}
	for _, s := range []string{"", "0000000", "000000000", "0000000X", "2000000x", "000 0000", "0000.000", ".00000000", "0000000\x00", "000000é", "00000000é", "0000000\xff", "/0000000", "0000000:"} {
		sized(t, strconv.Quote(s), 0, nil, lit(s))
	}
	sized(t, "an empty one beside others", 0, nil, lit("0000"), lit(""), lit("0000"))
	sized(t, "an empty one behind others", 0, nil, lit("00000000"), lit(""))
	sized(t, "an empty one ahead of others", 0, nil, lit(""), lit("00000000"))
}

// TestUnusedFieldsOfPieces: a literal's Hi and Lo, and an operand's Lit, may be anything.
func TestUnusedFieldsOfPieces(t *testing.T) {
	sized(t, "Hi and Lo of a literal", 1, nil, api.Piece{Arg: -1, Lit: "00000000", Hi: math.MinInt, Lo: math.MaxInt})
	sized(t, "Lit of an operand", 1, ofClasses(classS), api.Piece{Arg: 0, Lit: "0?", Hi: 7})
	sized(t, "Lit of an operand's parts", 1, ofClasses(classS), api.Piece{Arg: 0, Lit: "0", Hi: 7, Lo: 1}, api.Piece{Arg: 0, Lit: "11"})
}

// TestBitsInAll: a multiple of 8, from 8 to 120.
func TestBitsInAll(t *testing.T) {
	sized(t, "no bits", 0, nil)
	for n := 1; n <= 200; n++ {
		size := 0
		if n <= 120 && n%8 == 0 {
			size = n / 8
		}
		sized(t, "one literal", size, nil, lit(strings.Repeat("0", n)))
		var single []api.Piece
		for range n {
			single = append(single, lit("x"))
		}
		sized(t, "literals of one bit", size, nil, single...)
		if n >= 8 {
			sized(t, "an operand and a literal", size, ofClasses(classS), append(single[8:], bits(0, 7, 0))...)
			sized(t, "a literal and an operand", size, ofClasses(classS), append([]api.Piece{bits(0, 7, 0)}, single[8:]...)...)
		}
	}
	for _, n := range []int{240, 256, 1 << 16, 1<<16 + 8, 1 << 20} {
		sized(t, "very many bits", 0, nil, lit(strings.Repeat("01x0", n/4)))
	}
}

// TestOperandsAlone: forms without a literal.
func TestOperandsAlone(t *testing.T) {
	sized(t, "sgn 8", 1, ofClasses(classS), bits(0, 7, 0))
	sized(t, "two of 8", 2, ofClasses(classS, classNx), bits(1, 7, 0), bits(0, 7, 0))
	sized(t, "20 and 12", 4, ofClasses(classLow, classHigh), bits(0, 11, 0), bits(1, 19, 0))
	sized(t, "20 and 12 and 4", 0, ofClasses(classLow, classHigh, classW), bits(0, 11, 0), bits(1, 19, 0), bits(2, 3, 0))
	sized(t, "4 and 4", 1, ofClasses(classW, classW), bits(1, 3, 0), bits(0, 3, 0))
	sized(t, "20, 20, 20, 20, 20, 20", 15, ofClasses(classHigh, classHigh, classHigh, classHigh, classHigh, classHigh), bits(0, 19, 0), bits(1, 19, 0), bits(2, 19, 0), bits(3, 19, 0), bits(4, 19, 0), bits(5, 19, 0))
}

// TestCountOfOperands: six, and one more.
func TestCountOfOperands(t *testing.T) {
	var args []api.Arg
	var pieces []api.Piece
	for n := range 12 {
		size := 0
		if n <= 6 {
			size = 1 + n
		}
		sized(t, strconv.Itoa(n)+" operands", size, args, append(pieces, lit("00000000"))...)
		args = append(args, api.Arg{Class: classS})
		pieces = append(pieces, bits(n, 7, 0))
	}
	sized(t, "seven, one without bits", 0, args[:7], append(pieces[:6:6], lit("00000000"))...)
}

// TestBitsOnce: every bit of every operand stands in just one piece.
func TestBitsOnce(t *testing.T) {
	one := ofClasses(classS)
	sized(t, "in order", 1, one, bits(0, 7, 4), bits(0, 3, 0))
	sized(t, "out of order", 1, one, bits(0, 3, 0), bits(0, 7, 4))
	sized(t, "one by one", 1, one, bits(0, 0, 0), bits(0, 7, 7), bits(0, 3, 3), bits(0, 1, 1), bits(0, 5, 5), bits(0, 2, 2), bits(0, 6, 6), bits(0, 4, 4))
	sized(t, "a literal between", 2, one, bits(0, 7, 4), lit("00000000"), bits(0, 3, 0))
	sized(t, "all of them twice", 0, one, bits(0, 7, 0), bits(0, 7, 0))
	for n := range 8 {
		sized(t, "one of them twice", 0, one, bits(0, 7, 0), bits(0, n, n), lit("0000000"))
		sized(t, "one of them twice", 0, one, bits(0, n, n), lit("0000000"), bits(0, 7, 0))
		if n > 0 {
			sized(t, "one of them nowhere", 0, one, lit("0"), bits(0, n-1, 0), bits(0, 7, min(n+1, 7)))
			sized(t, "some of them nowhere", 0, one, bits(0, n-1, 0), lit(strings.Repeat("0", 8-n)))
			sized(t, "in two parts", 1, one, bits(0, n-1, 0), bits(0, 7, n))
			sized(t, "in two parts that share a bit", 0, one, bits(0, n, 0), bits(0, 7, n), lit("0000000"))
		}
	}
	sized(t, "nowhere", 0, one, lit("00000000"))
	sized(t, "one for the other", 0, ofClasses(classS, classS), bits(0, 7, 0), bits(0, 7, 0))
	sized(t, "one for the other, parts", 0, ofClasses(classS, classS), bits(0, 7, 0), bits(1, 7, 4), bits(0, 3, 0))
	sized(t, "two, mixed", 2, ofClasses(classS, classS), bits(0, 7, 4), bits(1, 7, 4), bits(0, 3, 0), bits(1, 3, 0))
	sized(t, "the second nowhere", 0, ofClasses(classS, classS), bits(0, 7, 0), lit("00000000"))
	sized(t, "the first nowhere", 0, ofClasses(classS, classS), lit("00000000"), bits(1, 7, 0))
}

// TestWideOperands: 64 bits, and the masks of parts of them.
func TestWideOperands(t *testing.T) {
	put := func(pieces ...api.Piece) int {
		d := api.Desc{Order: 2, Classes: []api.Class{{Kind: api.ClassSgn, Bits: 64}}, Forms: []api.Form{{Args: ofClasses(0), Pieces: pieces}}}
		return isacheck.Size(d, 0)
	}
	if put(bits(0, 63, 0)) != 8 || put(bits(0, 64, 0)) != 0 || put(bits(0, 62, 0), lit("0")) != 0 || put(bits(0, 63, 1), lit("0")) != 0 {
		t.Error("64 bits in one piece")
	}
	for n := 1; n < 64; n++ {
		if put(bits(0, 63, n), bits(0, n-1, 0)) != 8 || put(bits(0, n-1, 0), bits(0, 63, n)) != 8 {
			t.Error("64 bits in two pieces", n)
		}
		if put(bits(0, 63, n), bits(0, n, 0), lit("0000000")) != 0 || put(bits(0, 63, 0), bits(0, n, n), lit("0000000")) != 0 {
			t.Error("64 bits and one twice", n)
		}
	}
}

// TestPiecesOutside: numbers of operands and bits that aren't there.
func TestPiecesOutside(t *testing.T) {
	set := func(p api.Piece, field func(p *api.Piece) *int) func(d *api.Desc, n int) {
		return func(d *api.Desc, n int) {
			*field(&p) = n
			*d = patterned(ofClasses(classS), p)
		}
	}
	arg := func(p *api.Piece) *int { return &p.Arg }
	hi := func(p *api.Piece) *int { return &p.Hi }
	lo := func(p *api.Piece) *int { return &p.Lo }
	bound(t, "Arg", set(bits(0, 7, 0), arg), []int{0}, []int{-1, -2, 1, 2}, 0, api.ErrPattern)
	bound(t, "Arg of a literal", set(lit("00000000"), arg), nil, []int{-2, 0, 1}, 0, api.ErrPattern)
	bound(t, "Hi", set(bits(0, 7, 0), hi), []int{7}, []int{-1, 0, 6, 8, 63, 64, 65}, 0, api.ErrPattern)
	bound(t, "Lo", set(bits(0, 7, 0), lo), []int{0}, []int{-1, 1, 7, 8, 63, 64, 65}, 0, api.ErrPattern)
	for _, p := range [][2]int{{-1, -1}, {0, 1}, {8, 8}, {math.MinInt, math.MinInt}, {math.MaxInt, math.MaxInt}, {math.MaxInt, math.MinInt}, {math.MinInt, math.MaxInt}, {-1, -8}} {
		sized(t, "a piece of no bits", 0, ofClasses(classS), bits(0, 7, 0), bits(0, p[0], p[1]), lit("00000000"))
		sized(t, "a piece of no bits ahead", 0, ofClasses(classS), bits(0, p[0], p[1]), bits(0, 7, 0))
	}
}

// TestClassesOfOperands: places of the list, of classes that are right.
func TestClassesOfOperands(t *testing.T) {
	for c := range toy().Classes {
		if n := toy().Classes[c].Bits; n%8 == 0 {
			sized(t, "class "+strconv.Itoa(c), n/8, ofClasses(c), bits(0, n-1, 0))
		} else {
			sized(t, "class "+strconv.Itoa(c), n/8+1, ofClasses(c), bits(0, n-1, 0), lit(strings.Repeat("0", 8-n%8)))
		}
	}
	for _, c := range append([]int{-1, len(toy().Classes)}, far...) {
		sized(t, "class "+strconv.Itoa(c), 0, ofClasses(c), lit("00000000"))
		sized(t, "class "+strconv.Itoa(c), 0, ofClasses(classS, c), bits(0, 7, 0))
		sized(t, "class "+strconv.Itoa(c), 0, ofClasses(c, classS), bits(1, 7, 0))
		sized(t, "class "+strconv.Itoa(c), 0, ofClasses(c), bits(0, 7, 0))
	}
}

// TestSizeOfWrongClasses: Check finds a wrong class first, Size tells 0.
func TestSizeOfWrongClasses(t *testing.T) {
	for _, c := range []api.Class{{}, {Kind: 6, Bits: 8}, {Kind: api.ClassUns, Bits: 8, Shift: 55}, {Kind: api.ClassSgn, Bits: 8, Shift: 57}, {Kind: api.ClassPc, Bits: 8, Plus: 1}, {Kind: api.ClassReg, File: 3, Bits: 8}, {Kind: api.ClassReg, File: fileV, Bits: 8}, {Kind: api.ClassNext, Bits: 8, Shift: -1}} {
		d := patterned(ofClasses(classS), bits(0, 7, 0))
		d.Classes[classS] = c
		if n := isacheck.Size(d, 0); n != 0 {
			t.Errorf("%+v: %d", c, n)
		}
		checks(t, "a wrong class", d, -1, api.ErrCheck)
	}
	d := patterned(ofClasses(classR), bits(0, 1, 0), lit("000000"))
	if n := isacheck.Size(d, 0); n != 1 {
		t.Error("a right file", n)
	}
	d.Files[fileX].Width = 65
	if n := isacheck.Size(d, 0); n != 0 {
		t.Error("a wrong file", n)
	}
}

// TestSizeOfOthers: what is wrong elsewhere in a description is nothing to a form's size.
func TestSizeOfOthers(t *testing.T) {
	for _, f := range faults {
		d := toy()
		f.put(&d)
		if n := isacheck.Size(d, formPair); n != 5 {
			t.Error(f.what, n)
		}
	}
	d := toy()
	d.Order = 9
	for len(d.Forms) < 1000 {
		d.Forms = append(d.Forms, d.Forms[formLow])
	}
	if isacheck.Size(d, 999) != 5 || isacheck.Size(d, formNop) != 1 {
		t.Error("of very many forms")
	}
}

// TestPlacesOfPatterns: Check tells the first form with a wrong pattern.
func TestPlacesOfPatterns(t *testing.T) {
	for n := range toy().Forms {
		d := toy()
		for k := n; k < len(d.Forms); k++ {
			d.Forms[k].Pieces = append(d.Forms[k].Pieces, lit("1"))
		}
		checks(t, "form "+strconv.Itoa(n), d, n, api.ErrPattern)
	}
}

func TestSizeNoPlace(t *testing.T) {
	want := []int{1, 1, 5, 5}
	for n := range toy().Forms {
		if s := isacheck.Size(toy(), n); s != want[n] {
			t.Error(n, s)
		}
	}
	for _, n := range append([]int{-1, len(want), len(want) + 1}, far...) {
		if s := isacheck.Size(toy(), n); s != 0 {
			t.Error(n, s)
		}
	}
	if isacheck.Size(api.Desc{}, 0) != 0 || isacheck.Size(api.Desc{}, -1) != 0 {
		t.Error("of no forms")
	}
}
