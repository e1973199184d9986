package codec_test

import (
	"bytes"
	"math"
	"slices"
	"strings"
	"testing"

	"dovetail/api"
)

// P6.3

// toyCases are instructions of toy by bytes.
var toyCases = []struct {
	what string
	in   api.Insn
	want []byte
}{
	{"inc 0", api.Insn{Form: formInc, Vals: []int{0}}, []byte{0}},
	{"inc 3", api.Insn{Form: formInc, Vals: []int{3}}, []byte{3}},
	{"nop", api.Insn{Form: formNop}, []byte{0x20}},
	{"nop, no values", api.Insn{Form: formNop, Vals: []int{}}, []byte{0x20}},
	{"pair", api.Insn{Form: formPair, Vals: []int{15, 0x12345}}, []byte{0x40, 0xF1, 0x23, 0x45, 0x40}},
	{"pair, below 0", api.Insn{Form: formPair, Vals: []int{1, -1 << 19}}, []byte{0x40, 0x18, 0, 0, 0x40}},
	{"low", api.Insn{Form: formLow, Vals: []int{10, -2}}, []byte{0x60, 0x00, 0xAF, 0xFE, 0x60}},
	// l[3:0] k[11:6] d[0] j i[0] e d[2:1] i[4:1] k[5:0] l[7:4]
	{"all, d", api.Insn{Form: formAll, Vals: []int{15, 1, 0, 0, 0, 0}}, []byte{0x80, 0, 0x20, 0x01, 0xC0, 0, 0x28, 0x80}},
	{"all, e", api.Insn{Form: formAll, Vals: []int{8, 10, 0, 0, 0, 0}}, []byte{0x80, 0, 0, 0x0A, 0, 0, 0x28, 0x80}},
	{"all, i", api.Insn{Form: formAll, Vals: []int{8, 1, 4 * 0b10111, 0, 0, 0}}, []byte{0x80, 0, 0, 0x11, 0b00101100, 0, 0x28, 0x80}},
	{"all, j", api.Insn{Form: formAll, Vals: []int{8, 1, 0, -0b00101101, 0, 0}}, []byte{0x80, 0, 0b00011010, 0b01100001, 0, 0, 0x28, 0x80}},
	{"all, k", api.Insn{Form: formAll, Vals: []int{8, 1, 0, 0, 2 * 0b010110_110010, 0}}, []byte{0x80, 0b0000_0101, 0b10000000, 1, 0b11, 0b0010_0000, 0x28, 0x80}},
	{"all, l", api.Insn{Form: formAll, Vals: []int{8, 1, 0, 0, 0, 0x6D}}, []byte{0x80, 0xD0, 0, 1, 0, 6, 0x28, 0x80}},
}

func TestEncode(t *testing.T) {
	c := made(toy())
	for _, k := range toyCases {
		encodes(t, k.what, c, k.in, k.want)
	}
}

// TestEncodeWords: in the order of words the last byte that is written comes first.
func TestEncodeWords(t *testing.T) {
	d := toy()
	d.Order = api.OrderWord
	c := made(d)
	for _, k := range toyCases {
		want := slices.Clone(k.want)
		slices.Reverse(want)
		encodes(t, k.what, c, k.in, want)
	}
}

// TestEncodePieces: the bits of a piece are written from its highest on, the pieces from the first on.
func TestEncodePieces(t *testing.T) {
	for n := range 16 {
		d := ofClass(api.Class{Kind: api.ClassUns, Bits: 16})
		d.Forms[0].Pieces = []api.Piece{{Arg: -1, Lit: "1"}, {Hi: n, Lo: n}, {Arg: -1, Lit: "01"}}
		for k := 15; k >= 0; k-- {
			if k != n {
				d.Forms[0].Pieces = append(d.Forms[0].Pieces, api.Piece{Hi: k, Lo: k})
			}
		}
		d.Forms[0].Pieces = append(d.Forms[0].Pieces, api.Piece{Arg: -1, Lit: "01100"})
		for _, v := range []int{0, 1 << n, 0xFFFF, 0xFFFF &^ (1 << n), 0x5AA5, 0x1234} {
			high, rest := v>>n&1, v>>(n+1)<<n|v&(1<<n-1)
			bits := 1<<23 | high<<22 | 1<<20 | rest<<5 | 0b01100
			want := []byte{byte(bits >> 16), byte(bits >> 8), byte(bits)}
			d.Order = api.OrderBytes
			encodes(t, "bytes", made(d), api.Insn{Vals: []int{v}}, want)
			d.Order = api.OrderWord
			slices.Reverse(want)
			encodes(t, "word", made(d), api.Insn{Vals: []int{v}}, want)
		}
	}
}

// TestEncodeSizes: from 1 byte to 15, with bits beside one another across the 64th place.
func TestEncodeSizes(t *testing.T) {
	for size := 1; size <= api.MaxCode; size++ {
		for s := range 8 * size {
			d := ofClass(api.Class{Kind: api.ClassUns, Bits: 1})
			d.Forms[0].Pieces = []api.Piece{{}}
			if s > 0 {
				d.Forms[0].Pieces = slices.Insert(d.Forms[0].Pieces, 0, api.Piece{Arg: -1, Lit: strings.Repeat("0", s)})
			}
			if rest := 8*size - 1 - s; rest > 0 {
				d.Forms[0].Pieces = append(d.Forms[0].Pieces, api.Piece{Arg: -1, Lit: strings.Repeat("1", rest)})
			}
			want := make([]byte, size)
			for n := s; n < 8*size; n++ {
				want[n/8] |= 0x80 >> (n % 8)
			}
			both(t, d, 1, want)
			want[s/8] &^= 0x80 >> (s % 8)
			both(t, d, 0, want)
		}
	}
}

// both holds the bytes of a value in both orders.
func both(t *testing.T, d api.Desc, v int, want []byte) {
	t.Helper()
	d.Order = api.OrderBytes
	encodes(t, "bytes", made(d), api.Insn{Vals: []int{v}}, want)
	d.Order = api.OrderWord
	turned := slices.Clone(want)
	slices.Reverse(turned)
	encodes(t, "word", made(d), api.Insn{Vals: []int{v}}, turned)
}

// TestEncodeLong: fifteen bytes of operands alone.
func TestEncodeLong(t *testing.T) {
	d := api.Desc{Order: api.OrderBytes, Classes: []api.Class{{Kind: api.ClassSgn, Bits: 64}, {Kind: api.ClassUns, Bits: 56}}}
	d.Forms = []api.Form{{Args: []api.Arg{{Class: 1}, {Class: 0}}, Pieces: []api.Piece{{Arg: 1, Hi: 62, Lo: 0}, {Arg: 0, Hi: 55, Lo: 0}, {Arg: 1, Hi: 63, Lo: 63}}}}
	in := api.Insn{Vals: []int{0x0123456789ABCD, math.MinInt + 0x1122334455667788}}
	want := []byte{0x22, 0x44, 0x66, 0x88, 0xAA, 0xCC, 0xEF, 0x10, 0x02, 0x46, 0x8A, 0xCF, 0x13, 0x57, 0x9B}
	encodes(t, "bytes", made(d), in, want)
	d.Order = api.OrderWord
	slices.Reverse(want)
	encodes(t, "word", made(d), in, want)
}

// TestEncodeUnknown: places that don't count are 0.
func TestEncodeUnknown(t *testing.T) {
	d := ofClass(api.Class{Kind: api.ClassUns, Bits: 4})
	d.Forms[0].Pieces = []api.Piece{{Arg: -1, Lit: "x1x0x"}, {Hi: 1, Lo: 0}, {Arg: -1, Lit: "xx"}, {Hi: 3, Lo: 2}, {Arg: -1, Lit: "xxxx1"}}
	encodes(t, "x", made(d), api.Insn{Vals: []int{15}}, []byte{0x46, 0x61})
	d.Forms[0] = api.Form{Pieces: []api.Piece{{Arg: -1, Lit: strings.Repeat("x", 120)}}}
	encodes(t, "x alone", made(d), api.Insn{}, make([]byte, 15))
}

// TestEncodeInsn: forms that aren't there, and other numbers of values.
func TestEncodeInsn(t *testing.T) {
	c := made(toy())
	for _, n := range append([]int{-2, -1, 5, 6, 512}, far...) {
		for count := range 8 {
			refuses(t, "no form", c, api.Insn{Form: n, Vals: make([]int, count)}, api.ErrInsn)
		}
		refuses(t, "no form", c, api.Insn{Form: n}, api.ErrInsn)
	}
	for form, count := range []int{1, 0, 2, 2, 6} {
		for n := range 100 {
			if n != count {
				refuses(t, "another number", c, api.Insn{Form: form, Vals: make([]int, n)}, api.ErrInsn)
				refuses(t, "another number, far", c, api.Insn{Form: form, Vals: slices.Repeat([]int{math.MinInt}, n)}, api.ErrInsn)
			}
		}
		if count > 0 {
			refuses(t, "none", c, api.Insn{Form: form}, api.ErrInsn)
		}
	}
	refuses(t, "very many", c, api.Insn{Form: formAll, Vals: make([]int, 1<<20)}, api.ErrInsn)
}

// TestEncodeRange: a value of any operand that its class doesn't have.
func TestEncodeRange(t *testing.T) {
	c := made(toy())
	right := []int{8, 1, 0, 0, 0, 0}
	wrong := [][]int{{7, 16, -1, 0}, {0, 16, -1}, {-4, 1, 2, 3, 5, 128, -128}, {-129, 128, -1, 7}, {-4098, 4096, 1, -1, 4095}, {-129, 128, 255}}
	for n := range right {
		for _, v := range append(wrong[n], math.MinInt, math.MinInt+8, -1<<32, 1<<32+8, math.MaxInt-3, math.MaxInt) {
			in := api.Insn{Form: formAll, Vals: slices.Clone(right)}
			in.Vals[n] = v
			refuses(t, "one", c, in, api.ErrRange)
			for k := range right {
				in.Vals[k] = v
			}
			refuses(t, "all", c, in, api.ErrRange)
		}
	}
	encodes(t, "none", c, api.Insn{Form: formAll, Vals: right}, []byte{0x80, 0, 0, 1, 0, 0, 0x28, 0x80})
	refuses(t, "excepted", c, api.Insn{Form: formPair, Vals: []int{0, 0}}, api.ErrRange)
	refuses(t, "a bit more", c, api.Insn{Form: formPair, Vals: []int{1, 1 << 19}}, api.ErrRange)
	refuses(t, "a bit less", c, api.Insn{Form: formPair, Vals: []int{1, -1<<19 - 1}}, api.ErrRange)
}

// TestEncodeOwn: an instruction isn't changed, and its bytes are new memory.
func TestEncodeOwn(t *testing.T) {
	c := made(toy())
	room := []int{10, -2, 99, 98}
	for _, k := range []struct {
		in   api.Insn
		want api.Errno
	}{{api.Insn{Form: formLow, Vals: room[:2]}, api.OK}, {api.Insn{Form: formLow, Vals: room[:1]}, api.ErrInsn}, {api.Insn{Form: formLow, Vals: room[1:3]}, api.ErrRange}} {
		b, e := c.Encode(k.in)
		if e != k.want || !slices.Equal(room, []int{10, -2, 99, 98}) {
			t.Error(k, b, e, room)
		}
	}
	in := api.Insn{Form: formLow, Vals: room[:2]}
	first, _ := c.Encode(in)
	second, _ := c.Encode(in)
	kept := bytes.Clone(first)
	for n := range second[:cap(second)] {
		second[:cap(second)][n] = 0xEE
	}
	room[0], room[1] = 1, 1
	if !bytes.Equal(first, kept) {
		t.Errorf("% x, not % x", first, kept)
	}
	if third, _ := c.Encode(api.Insn{Form: formLow, Vals: []int{10, -2}}); !bytes.Equal(third, kept) {
		t.Errorf("% x, not % x", third, kept)
	}
}
