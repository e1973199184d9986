package codec_test

import (
	"math"
	"slices"
	"strconv"
	"testing"

	"dovetail/api"
)

// P6.2

// ofClass is a right description of a class and a form that has an operand of it and x.
func ofClass(c api.Class) api.Desc {
	d := api.Desc{Order: api.OrderBytes, Files: []api.File{{Count: 64, Width: 8, Zero: -1}}, Classes: []api.Class{c}}
	f := api.Form{Args: []api.Arg{{Name: "i"}}, Pieces: []api.Piece{{Hi: c.Bits - 1}}}
	for n := c.Bits; n%8 != 0; n++ {
		f.Pieces = append(f.Pieces, api.Piece{Arg: -1, Lit: "x"})
	}
	d.Forms = []api.Form{f}
	return d
}

// has holds whether a class has a value, and that an operand of it can be encoded if so.
func has(t *testing.T, c api.Class, value int, want bool) {
	t.Helper()
	d := ofClass(c)
	k := made(d)
	if k.Has(0, value) != want {
		t.Errorf("%+v: %d: not %v", c, value, want)
	}
	in := api.Insn{Vals: []int{value}}
	b, e := k.Encode(in)
	if !want {
		if e != api.ErrRange || len(b) != 0 {
			t.Errorf("%+v: %d: % x, %v", c, value, b, e)
		}
		return
	}
	if e != api.OK {
		t.Errorf("%+v: %d: %v", c, value, e)
		return
	}
	decodes(t, strconv.Itoa(value), k, b, in, len(b))
}

// kinds are classes of three bits, and the values of their bits from 0 to 7.
var kinds = []struct {
	class  api.Class
	values [8]int
}{
	{api.Class{Kind: api.ClassReg, Bits: 3}, [8]int{0, 1, 2, 3, 4, 5, 6, 7}},
	{api.Class{Kind: api.ClassReg, Bits: 3, Plus: 1}, [8]int{1, 2, 3, 4, 5, 6, 7, 8}},
	{api.Class{Kind: api.ClassReg, Bits: 3, Plus: 8}, [8]int{8, 9, 10, 11, 12, 13, 14, 15}},
	{api.Class{Kind: api.ClassReg, Bits: 3, Plus: 56}, [8]int{56, 57, 58, 59, 60, 61, 62, 63}},
	{api.Class{Kind: api.ClassUns, Bits: 3}, [8]int{0, 1, 2, 3, 4, 5, 6, 7}},
	{api.Class{Kind: api.ClassUns, Bits: 3, Shift: 2}, [8]int{0, 4, 8, 12, 16, 20, 24, 28}},
	{api.Class{Kind: api.ClassUns, Bits: 3, Shift: 59}, [8]int{0, 1 << 59, 2 << 59, 3 << 59, 4 << 59, 5 << 59, 6 << 59, 7 << 59}},
	{api.Class{Kind: api.ClassSgn, Bits: 3}, [8]int{0, 1, 2, 3, -4, -3, -2, -1}},
	{api.Class{Kind: api.ClassSgn, Bits: 3, Shift: 4}, [8]int{0, 16, 32, 48, -64, -48, -32, -16}},
	{api.Class{Kind: api.ClassSgn, Bits: 3, Shift: 61}, [8]int{0, 1 << 61, 2 << 61, 3 << 61, -4 << 61, -3 << 61, -2 << 61, -1 << 61}},
	{api.Class{Kind: api.ClassPc, Bits: 3, Shift: 1}, [8]int{0, 2, 4, 6, -8, -6, -4, -2}},
	{api.Class{Kind: api.ClassPc, Bits: 3}, [8]int{0, 1, 2, 3, -4, -3, -2, -1}},
	{api.Class{Kind: api.ClassNext, Bits: 3}, [8]int{0, 1, 2, 3, -4, -3, -2, -1}},
	{api.Class{Kind: api.ClassNext, Bits: 3, Shift: 3}, [8]int{0, 8, 16, 24, -32, -24, -16, -8}},
}

// TestValues: a class has just the values of its bits, which are encoded as these.
func TestValues(t *testing.T) {
	for _, k := range kinds {
		for bits, v := range k.values {
			c := made(ofClass(k.class))
			encodes(t, strconv.Itoa(k.class.Kind), c, api.Insn{Vals: []int{v}}, []byte{byte(bits << 5)})
			decodes(t, "x set", c, []byte{byte(bits<<5) + 31}, api.Insn{Vals: []int{v}}, 1)
			if b, e := c.Encode(api.Insn{Vals: []int{v}}); e != api.OK || b[0] != byte(bits<<5) {
				t.Errorf("%+v: %d: % x %v", k.class, v, b, e)
			}
		}
		for _, v := range far {
			has(t, k.class, v, slices.Contains(k.values[:], v))
		}
		for v := -130; v < 130; v++ {
			has(t, k.class, v, slices.Contains(k.values[:], v))
		}
		for _, v := range k.values {
			for _, by := range []int{1, -1, 1 << 32, -1 << 32, 1 << 58, math.MinInt} {
				has(t, k.class, v+by, slices.Contains(k.values[:], v+by))
			}
		}
	}
}

// TestExcept: a value that is excepted is none, and its bits are no instruction.
func TestExcept(t *testing.T) {
	for _, k := range kinds {
		for bits, v := range k.values {
			for _, except := range [][]int{{v}, {1000, v, -1000}, {v, v}, {math.MinInt + 1, math.MaxInt, v}} {
				c := k.class
				c.Except = except
				m := made(ofClass(c))
				for other, w := range k.values {
					has(t, c, w, w != v)
					if other == bits {
						decodesNone(t, "excepted", m, []byte{byte(bits << 5), 0, 0})
					} else {
						decodes(t, "not excepted", m, []byte{byte(other << 5), 0, 0}, api.Insn{Vals: []int{w}}, 1)
					}
				}
			}
		}
		c := k.class
		c.Except = k.values[:]
		for bits, v := range k.values {
			has(t, c, v, false)
			decodesNone(t, "all excepted", made(ofClass(c)), []byte{byte(bits << 5)})
		}
	}
}

// TestWideValues: the bounds of classes of many bits, and what lies between their steps.
func TestWideValues(t *testing.T) {
	for shift := range 64 {
		for bits := 1; bits+shift <= 64; bits++ {
			for kind := api.ClassUns; kind <= api.ClassNext; kind++ {
				c := api.Class{Kind: kind, Bits: bits, Shift: shift}
				if kind != api.ClassUns {
					signedBounds(t, c)
				} else if bits+shift <= 62 {
					unsignedBounds(t, c)
				}
			}
		}
	}
	for bits := 1; bits <= 6; bits++ {
		for plus := 0; plus <= 64-1<<bits; plus++ {
			c := api.Class{Kind: api.ClassReg, Bits: bits, Plus: plus}
			m := made(ofClass(c))
			for v := -70; v < 140; v++ {
				if want := v >= plus && v < plus+1<<bits; m.Has(0, v) != want {
					t.Errorf("%+v: %d: not %v", c, v, want)
				}
			}
		}
	}
}

func unsignedBounds(t *testing.T, c api.Class) {
	t.Helper()
	step, top := 1<<c.Shift, (1<<c.Bits-1)<<c.Shift
	m := made(ofClass(c))
	for v, want := range map[int]bool{0: true, top: true, top + step: false, -step: false, -top: false, -top - step: false, math.MinInt: false, math.MaxInt: false, math.MinInt + step: false} {
		if m.Has(0, v) != want {
			t.Errorf("%+v: %d: not %v", c, v, want)
		}
	}
	if c.Shift > 0 {
		between(t, c, 0, top, top+step)
	}
}

func signedBounds(t *testing.T, c api.Class) {
	t.Helper()
	step, low := 1<<c.Shift, -1<<(c.Bits-1)<<c.Shift
	top := -(low + step) // the highest one, also where less of low is too much
	m := made(ofClass(c))
	for _, v := range []int{0, low, top} {
		if !m.Has(0, v) {
			t.Errorf("%+v: not %d", c, v)
		}
	}
	if c.Bits > 1 && !m.Has(0, -step) || c.Bits > 2 && !m.Has(0, step) {
		t.Errorf("%+v: not a step", c)
	}
	if c.Bits+c.Shift < 64 {
		for _, v := range []int{low - step, top + step, math.MinInt, math.MaxInt, math.MaxInt - (step - 1)} {
			if m.Has(0, v) {
				t.Errorf("%+v: %d", c, v)
			}
		}
	}
	if c.Shift > 0 {
		between(t, c, low, 0, top, math.MaxInt)
	}
}

// between holds that no number beside some steps is a value.
func between(t *testing.T, c api.Class, steps ...int) {
	t.Helper()
	m := made(ofClass(c))
	for _, s := range steps {
		for n := range c.Shift {
			if m.Has(0, s&(-1<<c.Shift)|1<<n) || m.Has(0, s&(-1<<c.Shift)|(1<<c.Shift-1)>>n) {
				t.Errorf("%+v: beside %d", c, s)
			}
		}
	}
}

// TestWideEncoded: the bits of values of many bits.
func TestWideEncoded(t *testing.T) {
	for _, c := range []struct {
		class api.Class
		value int
		want  []byte
	}{
		{api.Class{Kind: api.ClassSgn, Bits: 64}, math.MinInt, []byte{0x80, 0, 0, 0, 0, 0, 0, 0}},
		{api.Class{Kind: api.ClassSgn, Bits: 64}, math.MaxInt, []byte{0x7F, 0xFF, 0xFF, 0xFF, 0xFF, 0xFF, 0xFF, 0xFF}},
		{api.Class{Kind: api.ClassPc, Bits: 64}, -2, []byte{0xFF, 0xFF, 0xFF, 0xFF, 0xFF, 0xFF, 0xFF, 0xFE}},
		{api.Class{Kind: api.ClassNext, Bits: 64}, 0x123456789ABCDEF, []byte{1, 0x23, 0x45, 0x67, 0x89, 0xAB, 0xCD, 0xEF}},
		{api.Class{Kind: api.ClassSgn, Bits: 56, Shift: 8}, math.MinInt, []byte{0x80, 0, 0, 0, 0, 0, 0}},
		{api.Class{Kind: api.ClassSgn, Bits: 56, Shift: 8}, -256, []byte{0xFF, 0xFF, 0xFF, 0xFF, 0xFF, 0xFF, 0xFF}},
		{api.Class{Kind: api.ClassPc, Bits: 8, Shift: 56}, math.MinInt, []byte{0x80}},
		{api.Class{Kind: api.ClassPc, Bits: 8, Shift: 56}, 127 << 56, []byte{0x7F}},
		{api.Class{Kind: api.ClassNext, Bits: 1, Shift: 63}, math.MinInt, []byte{0x80}},
		{api.Class{Kind: api.ClassSgn, Bits: 1}, -1, []byte{0x80}},
		{api.Class{Kind: api.ClassSgn, Bits: 1}, 0, []byte{0}},
		{api.Class{Kind: api.ClassUns, Bits: 62}, 1<<62 - 1, []byte{0xFF, 0xFF, 0xFF, 0xFF, 0xFF, 0xFF, 0xFF, 0xFC}},
		{api.Class{Kind: api.ClassUns, Bits: 56, Shift: 6}, 1<<62 - 64, []byte{0xFF, 0xFF, 0xFF, 0xFF, 0xFF, 0xFF, 0xFF}},
		{api.Class{Kind: api.ClassUns, Bits: 1, Shift: 61}, 1 << 61, []byte{0x80}},
		{api.Class{Kind: api.ClassReg, Bits: 6}, 63, []byte{0xFC}},
		{api.Class{Kind: api.ClassReg, Bits: 1, Plus: 62}, 63, []byte{0x80}},
	} {
		encodes(t, strconv.Itoa(c.class.Kind), made(ofClass(c.class)), api.Insn{Vals: []int{c.value}}, c.want)
	}
}

// TestHasNoClass: a number that is no place of a class has no values.
func TestHasNoClass(t *testing.T) {
	c := made(toy())
	for _, class := range append([]int{-2, -1, 9, 10, 64}, far...) {
		for _, v := range append([]int{-1, 0, 1, 8}, far...) {
			if c.Has(class, v) {
				t.Error(class, v)
			}
		}
	}
}

// TestHasOfToy: each class by its place.
func TestHasOfToy(t *testing.T) {
	c := made(toy())
	for class, want := range [][]int{
		classR: {0, 1, 2, 3}, classW: {1, 2, 3, 4, 5, 6, 7, 8, 9}, classP: {8, 9}, classU: {0, 4, 8}, classS: {-4, -3, -2, 0, 1, 2, 3, 4, 5, 6, 8, 9},
		classPc: {-4, -2, 0, 2, 4, 6, 8}, classNx: {-4, -3, -2, -1, 0, 1, 2, 3, 4, 5, 6, 7, 8, 9}, classHigh: {-4, -3, -2, -1, 0, 1, 2, 3, 4, 5, 6, 7, 8, 9}, classLow: {-4, -3, -2, -1, 0, 1, 2, 3, 4, 5, 6, 7, 8, 9},
	} {
		for v := -4; v < 10; v++ {
			if c.Has(class, v) != slices.Contains(want, v) {
				t.Error(class, v)
			}
		}
	}
}
