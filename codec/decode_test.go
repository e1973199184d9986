package codec_test

import (
	"bytes"
	"slices"
	"strings"
	"testing"

	"dovetail/api"
)

// P6.4

// TestDecodeNone: bytes that begin with no instruction.
func TestDecodeNone(t *testing.T) {
	c := made(toy())
	for _, b := range [][]byte{
		nil, {}, {4}, {0xFF}, {0x21}, {0x21, 0x20}, {0xC0, 0x20}, {0x40, 0xF1, 0x23, 0x45}, {0x40, 0xF1, 0x23, 0x45, 0x41}, {0x40, 0x01, 0x23, 0x45, 0x40},
		{0x60, 0x01, 0xAF, 0xFE, 0x60}, {0x60, 0xF0, 0x0F, 0xFE, 0x60}, bytes.Repeat([]byte{0x64}, 5), bytes.Repeat([]byte{0xFF}, 100),
	} {
		decodesNone(t, "toy", c, b)
	}
}

// TestDecodeEnough: the form must have all of its bytes, though those that are there are as it says.
func TestDecodeEnough(t *testing.T) {
	for size := 1; size <= api.MaxCode; size++ {
		for _, order := range []int{api.OrderWord, api.OrderBytes} {
			for s, fill := range map[string]byte{"0": 0, "1": 0xFF, "x": 0x55} {
				d := api.Desc{Order: order, Forms: []api.Form{{Pieces: []api.Piece{{Arg: -1, Lit: strings.Repeat(s, 8*size)}}}}}
				c := made(d)
				b := bytes.Repeat([]byte{fill}, 40)
				for n := range b {
					if n < size {
						decodesNone(t, s, c, b[:n:n])
						decodesNone(t, s+" with room behind", c, b[:n])
					} else {
						decodes(t, s, c, b[:n], api.Insn{}, size)
					}
				}
			}
		}
	}
}

// TestDecodeBehind: what stands behind an instruction is nothing to it, however much it is.
func TestDecodeBehind(t *testing.T) {
	c := made(toy())
	for _, k := range toyCases {
		for _, fill := range []byte{0, 0x20, 0x55, 0xFF} {
			decodes(t, k.what, c, append(bytes.Clone(k.want), bytes.Repeat([]byte{fill}, 1<<16)...), k.in, len(k.want))
		}
	}
}

// TestDecodeLiterals: each literal 0 and 1 counts, each x doesn't.
func TestDecodeLiterals(t *testing.T) {
	lit := "01x110x00x1x01x1" + "1x00101x" + "xx0110x1" + "0000111x" + "1111xxxx" + "10101010" + "x0x1x0x1" + "1100x011" + "0x1x0x1x" + "00000000"
	plain := strings.ReplaceAll(lit, "x", "0")
	for _, order := range []int{api.OrderWord, api.OrderBytes} {
		c := made(api.Desc{Order: order, Forms: []api.Form{{Pieces: []api.Piece{{Arg: -1, Lit: lit[:13]}, {Arg: -1, Lit: lit[13:50]}, {Arg: -1, Lit: lit[50:]}}}}})
		decodes(t, "as written", c, inOrder(order, plain), api.Insn{}, len(lit)/8)
		for n := range lit {
			turned := plain[:n] + string("10"[plain[n]-'0']) + plain[n+1:]
			if lit[n] == 'x' {
				decodes(t, turned, c, inOrder(order, turned), api.Insn{}, len(lit)/8)
			} else {
				decodesNone(t, turned, c, inOrder(order, turned))
			}
		}
		decodes(t, "all x 1", c, inOrder(order, strings.ReplaceAll(lit, "x", "1")), api.Insn{}, len(lit)/8)
	}
}

// inOrder are the bytes of bits as they are written.
func inOrder(order int, written string) []byte {
	b := make([]byte, len(written)/8)
	for n := range written {
		b[n/8] = b[n/8]<<1 | (written[n] - '0')
	}
	if order == api.OrderWord {
		slices.Reverse(b)
	}
	return b
}

// TestDecodeExcepted: what one form's class excepts may be another form's, ahead of it or behind, shorter or longer.
func TestDecodeExcepted(t *testing.T) {
	general := `(form g "g i" ((i e)) (.0101 i .xxxxxxxx) ())`
	special := `(form s "s" () (.01010011) ())`
	long := `(form l "l" () (.010111001010101011111111) ())`
	for _, forms := range [][]string{{general, special, long}, {special, long, general}, {long, general, special}} {
		c := made(read("(isa toy bytes) (class e sgn 4 except 3 -4) " + strings.Join(forms, " ")))
		g, s, l := slices.Index(forms, general), slices.Index(forms, special), slices.Index(forms, long)
		decodes(t, "special", c, []byte{0x53, 0xAA, 0xFF}, api.Insn{Form: s}, 1)
		decodes(t, "special alone", c, []byte{0x53}, api.Insn{Form: s}, 1)
		decodes(t, "long", c, []byte{0x5C, 0xAA, 0xFF}, api.Insn{Form: l}, 3)
		decodesNone(t, "excepted and not long", c, []byte{0x5C, 0xAA, 0xFE})
		decodesNone(t, "excepted and too short", c, []byte{0x5C, 0xAA})
		for v := -8; v < 8; v++ {
			if v == 3 || v == -4 {
				refuses(t, "general", c, api.Insn{Form: g, Vals: []int{v}}, api.ErrRange)
				continue
			}
			encodes(t, "general", c, api.Insn{Form: g, Vals: []int{v}}, []byte{0x50 | byte(v)&15, 0})
			decodes(t, "general", c, []byte{0x50 | byte(v)&15, 0xAA, 0xFF}, api.Insn{Form: g, Vals: []int{v}}, 2)
		}
	}
}

// TestDecodeExceptedOperand: the value of any operand may be excepted.
func TestDecodeExceptedOperand(t *testing.T) {
	c := made(toy())
	right := []byte{0x80, 0, 0, 1, 0, 0, 0x28, 0x80}
	decodes(t, "right", c, right, api.Insn{Form: formAll, Vals: []int{8, 1, 0, 0, 0, 0}}, 8)
	decodesNone(t, "e is 0", c, []byte{0x80, 0, 0, 0, 0, 0, 0x28, 0x80})
	decodesNone(t, "j is 7", c, []byte{0x80, 0, 0, 0xE1, 0, 0, 0x28, 0x80})
	decodesNone(t, "j is -1", c, []byte{0x80, 0, 0x1F, 0xE1, 0, 0, 0x28, 0x80})
	decodes(t, "j is 6", c, []byte{0x80, 0, 0, 0xC1, 0, 0, 0x28, 0x80}, api.Insn{Form: formAll, Vals: []int{8, 1, 0, 6, 0, 0}}, 8)
}

// TestDecodeMany: the form may stand at any place of as many as there may be.
func TestDecodeMany(t *testing.T) {
	d := api.Desc{Order: api.OrderWord, Classes: []api.Class{{Kind: api.ClassUns, Bits: 7}}}
	for n := range api.MaxForms {
		lit := ""
		for bit := 8; bit >= 0; bit-- {
			lit += string("01"[n>>bit&1])
		}
		d.Forms = append(d.Forms, api.Form{Args: []api.Arg{{}}, Pieces: []api.Piece{{Hi: 6}, {Arg: -1, Lit: lit}}})
	}
	c := made(d)
	for n := range api.MaxForms {
		v := n * 77 % 128
		encodes(t, "many", c, api.Insn{Form: n, Vals: []int{v}}, []byte{byte(n), byte(n>>8 | v<<1)})
	}
}

// TestDecodeOwn: the bytes aren't changed, and an answer is new memory.
func TestDecodeOwn(t *testing.T) {
	c := made(toy())
	room := []byte{0x40, 0xF1, 0x23, 0x45, 0x40, 9, 8, 7}
	kept := bytes.Clone(room)
	first, _, _ := c.Decode(room[:6])
	second, _, _ := c.Decode(room[:6])
	c.Decode(room[:4])
	if !bytes.Equal(room, kept) {
		t.Errorf("% x", room)
	}
	all := second.Vals[:cap(second.Vals)]
	for n := range all {
		all[n] = 77
	}
	for n := range room {
		room[n] = 0x20
	}
	if !slices.Equal(first.Vals, []int{15, 0x12345}) {
		t.Error(first)
	}
	decodes(t, "again", c, kept, first, 5)
}

// P6.5

func TestCanonical(t *testing.T) {
	c := made(toy())
	for form, want := range []bool{true, true, true, false, false} {
		if c.Canonical(form) != want {
			t.Error(form)
		}
	}
	for _, n := range append([]int{-2, -1, 5, 6, 512}, far...) {
		if c.Canonical(n) {
			t.Error(n)
		}
	}
}

// TestCanonicalPlaces: an x anywhere, in any piece.
func TestCanonicalPlaces(t *testing.T) {
	plain := "0110100110010110"
	for n := range plain {
		for cut := 1; cut < len(plain); cut++ {
			for x, want := range map[string]bool{"x": false, "0": true, "1": true} {
				s := plain[:n] + x + plain[n+1:]
				d := ofClass(api.Class{Kind: api.ClassUns, Bits: 8})
				d.Forms[0].Pieces = []api.Piece{{Arg: -1, Lit: s[:cut]}, {Hi: 7}, {Arg: -1, Lit: s[cut:]}}
				if made(d).Canonical(0) != want {
					t.Error(s, cut)
				}
			}
		}
	}
}

// TestCanonicalAgain: of canonical forms Encode of what Decode gives is the bytes; of others they are those without what doesn't count.
func TestCanonicalAgain(t *testing.T) {
	c := made(toy())
	for first := range 256 {
		for second := range 256 {
			b := []byte{byte(first), byte(second), 0xF3, 0x45, byte(first)}
			in, n, e := c.Decode(b)
			if e != api.OK {
				continue
			}
			again, e := c.Encode(in)
			if e != api.OK || len(again) != n {
				t.Errorf("% x: %v %d, % x %v", b, in, n, again, e)
			}
			want := bytes.Clone(b[:n])
			if in.Form == formLow {
				want[1] &= 0x0F
			}
			if !bytes.Equal(again, want) {
				t.Errorf("% x: % x", b, again)
			}
		}
	}
}
