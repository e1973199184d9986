package calc_test

import (
	"bytes"
	"math"
	"slices"
	"testing"

	"dovetail/api"
	"dovetail/buf"
	"dovetail/calc"
)

// P11.3

// applies holds the bytes that Apply of the place 0 answers, and that what stands ahead and behind stays.
func applies(t *testing.T, what string, p *calc.Patcher, b []byte, v int, want []byte) {
	t.Helper()
	for _, ahead := range [][]byte{nil, {0xFF}, {0x10, 0x20, 0x30}, bytes.Repeat([]byte{0x5F}, 33)} {
		for _, behind := range [][]byte{nil, {0}, {0x12, 0x34, 0x56, 0x78}, bytes.Repeat([]byte{0xF7}, 33)} {
			all, same := slices.Concat(ahead, b, behind), slices.Concat(ahead, want, behind)
			if out, e := p.Apply(0, all, len(ahead), v); e != api.OK || !bytes.Equal(out, same) {
				t.Errorf("%s: %#x in % x: % x, %v, not % x", what, v, all, out, e, same)
			}
		}
	}
}

// refuses holds an error of Apply of the place 0.
func refuses(t *testing.T, what string, p *calc.Patcher, b []byte, at, v int, want api.Errno) {
	t.Helper()
	if out, e := p.Apply(0, b, at, v); e != want || len(out) != 0 {
		t.Errorf("%s: %#x in % x at %d: % x, %v, not %v", what, v, b, at, out, e, want)
	}
}

// TestApplyNone: nothing is changed, whatever the place and the value.
func TestApplyNone(t *testing.T) {
	p := of("none")
	for _, b := range [][]byte{nil, {}, {1}, {0x1F, 0x11, 0x44, 0x88, 7}} {
		for _, at := range append([]int{-1, 0, 1, 2, 5, 6}, far...) {
			for _, v := range append([]int{0, 1, -1}, far...) {
				if out, e := p.Apply(0, b, at, v); e != api.OK || !bytes.Equal(out, b) {
					t.Error(b, at, v, out, e)
				}
			}
		}
	}
}

// TestApplyData: the lowest bytes of the value, the lowest one first; Round isn't added.
func TestApplyData(t *testing.T) {
	bits := []byte{0x88, 0x99, 0xAA, 0xBB, 0xCC, 0xDD, 0xEE, 0x7F}
	v := 0x7FEEDDCCBBAA9988
	for n := 1; n <= 8; n++ {
		for _, more := range []string{"", " (round 2048)", " (signed 8)", " (align 30)", " (either 64)"} {
			p := of("data " + string(rune('0'+n)) + " S" + more)
			applies(t, "data", p, bytes.Repeat([]byte{0x3C}, n), v, bits[:n])
			applies(t, "all bits", p, make([]byte, n), -1, bytes.Repeat([]byte{0xFF}, n))
			applies(t, "none", p, bytes.Repeat([]byte{0xFF}, n), 0, make([]byte, n))
			applies(t, "the least", p, bytes.Repeat([]byte{0xFF}, n), math.MinInt, []byte{0, 0, 0, 0, 0, 0, 0, 0x80}[:n])
		}
	}
}

// TestApplyDataBuf: bytes that aren't all there.
func TestApplyDataBuf(t *testing.T) {
	for n := 1; n <= 8; n++ {
		p := of("data " + string(rune('0'+n)) + " S")
		for size := range 12 {
			b := bytes.Repeat([]byte{0x11}, size)
			for at := -3; at < 16; at++ {
				out, e := p.Apply(0, b, at, 0x55)
				want, fault := buf.Put(b, at, n, 0x55)
				if e != fault || !bytes.Equal(out, want) || (e == api.OK) != (at >= 0 && at+n <= size) {
					t.Error(n, size, at, out, e)
				}
			}
			for _, at := range append([]int{math.MaxInt - n + 1, math.MaxInt - 7}, far...) {
				refuses(t, "far", p, b, at, 0, api.ErrBuf)
			}
		}
		refuses(t, "nothing", p, nil, 0, 0, api.ErrBuf)
	}
}

// insnCases are relocations of instructions of toy.
var insnCases = []struct {
	rel  string
	b    []byte
	v    int
	want []byte
}{
	// Of two operands of the class the first one, which stands behind the other in the bytes; what the form leaves open becomes 0.
	{"insn u S (slice 9 2)", []byte{0x1F, 0x11, 0x44, 0x88}, 0x154, []byte{0x10, 0x11, 0x55, 0x48}},
	{"insn u S (slice 9 2)", []byte{0x1F, 0xEE, 0xFE, 0xDF}, 0, []byte{0x10, 0xEE, 0x40, 0x0F}},
	{"insn u S (slice 9 2)", []byte{0x10, 0, 0x40, 0}, -9, []byte{0x10, 0, 0x7F, 0x40}},
	{"insn r S (slice 3 0)", []byte{0x10, 0, 0x40, 0}, 0xFFA, []byte{0x10, 0, 0x40, 0x0A}},
	// Bits outside of Hi and Lo don't count; above Hi - Lo the operand's are 0.
	{"insn u S (slice 7 0)", []byte{0xB0, 0x1F}, 0x1234A5, []byte{0xB5, 0x1A}},
	{"insn u S (slice 3 0)", []byte{0xBF, 0xBE}, 0x1234A5, []byte{0xB5, 0x10}},
	{"insn u S (slice 7 4)", []byte{0xBF, 0xBE}, 0x1234A5, []byte{0xBA, 0x10}},
	{"insn u S (slice 7 7)", []byte{0xBF, 0xBE}, 0x1234A5, []byte{0xB1, 0x10}},
	{"insn u S (slice 6 6)", []byte{0xBF, 0xBE}, 0x1234A5, []byte{0xB0, 0x10}},
	{"insn u S (slice 63 60)", []byte{0xB0, 0x1F}, math.MinInt, []byte{0xB8, 0x10}},
	{"insn u S (slice 63 63)", []byte{0xB0, 0x1F}, -1, []byte{0xB1, 0x10}},
	// Round is added ahead of all, and wraps round.
	{"insn u S (round 1) (slice 7 0)", []byte{0xB0, 0x1F}, 0xFF, []byte{0xB0, 0x10}},
	{"insn u S (round 16) (slice 7 4)", []byte{0xB0, 0x1F}, 0x31, []byte{0xB4, 0x10}},
	{"insn u S (round 8) (slice 7 4)", []byte{0xB0, 0x1F}, 0x57, []byte{0xB5, 0x10}},
	{"insn u S (round 8) (slice 7 4)", []byte{0xB0, 0x1F}, 0x58, []byte{0xB6, 0x10}},
	{"insn u S (round 4294967296) (slice 39 32)", []byte{0xB0, 0x1F}, 0x41 << 32, []byte{0xB2, 0x14}},
	{"insn u S (round 1) (slice 63 60)", []byte{0xB0, 0x1F}, math.MaxInt, []byte{0xB8, 0x10}},
	// Classes of each kind: bits are put in as they are, without Shift and Plus.
	{"insn s S (slice 7 0)", []byte{0x2C, 0xF0}, 0x80, []byte{0x2C, 0x80}},
	{"insn s S (slice 7 0)", []byte{0x2C, 0xF0}, 0x7F, []byte{0x2C, 0x7F}},
	{"insn s S (slice 6 0)", []byte{0x2C, 0xF0}, -1, []byte{0x2C, 0x7F}},
	{"insn w S (slice 2 0)", []byte{0x9F}, 0, []byte{0x90}},
	{"insn w S (slice 2 0)", []byte{0x98}, 7, []byte{0x97}},
	{"insn w S (slice 5 4)", []byte{0x98}, 0x3F, []byte{0x93}},
	{"insn n S (slice 6 3)", []byte{0x80}, -64, []byte{0x88}},
	{"insn n S (slice 6 3)", []byte{0x8F}, 56, []byte{0x87}},
	{"insn c S (slice 11 0)", []byte{0xAF, 0x12, 0x3B}, 0x8F7, []byte{0xA0, 0x8F, 0x71}},
	{"insn c S (slice 11 0)", []byte{0xA5, 0x12, 0x31}, -1, []byte{0xA0, 0xFF, 0xF1}},
	{"insn q S (slice 63 0)", []byte{0x3F, 1, 2, 3, 4, 5, 6, 7, 8}, math.MinInt + 0x10, []byte{0x30, 0x80, 0, 0, 0, 0, 0, 0, 0x10}},
	{"insn q S (slice 62 0)", []byte{0x3F, 1, 2, 3, 4, 5, 6, 7, 8}, -1, []byte{0x30, 0x7F, 0xFF, 0xFF, 0xFF, 0xFF, 0xFF, 0xFF, 0xFF}},
	{"insn q S (slice 63 8)", []byte{0x3F, 1, 2, 3, 4, 5, 6, 7, 8}, -256, []byte{0x30, 0, 0xFF, 0xFF, 0xFF, 0xFF, 0xFF, 0xFF, 0xFF}},
	{"insn high S (slice 31 12)", []byte{0x4A, 0, 0, 0x0E}, 0x12345FFF, []byte{0x4A, 0x12, 0x34, 0x54}},
	{"insn low S (slice 11 0)", []byte{0xC0, 0, 0, 0, 9}, 0x12345678, []byte{0xC0, 0, 0, 0x67, 0x89}},
	{"insn left S (slice 19 0)", []byte{0x6F, 0xFF, 0xFF}, 0x54321, []byte{0x65, 0x43, 0x21}},
	{"insn right S (slice 11 0)", []byte{0x7F, 0xFF}, 0x54321, []byte{0x73, 0x21}},
}

func TestApplyInsn(t *testing.T) {
	for _, c := range insnCases {
		applies(t, c.rel, of(c.rel), c.b, c.v, c.want)
	}
}

// TestApplyInsnNone: bytes that aren't instructions, or none with such an operand.
func TestApplyInsnNone(t *testing.T) {
	p := of("insn s S (slice 7 0)")
	b := []byte{0x2C, 0xF0, 0xF0, 0xE0, 0x2C}
	applies(t, "right", p, b[:2], 0x11, []byte{0x2C, 0x11})
	for what, at := range map[string]int{"an operand's bits": 1, "no operand": 2, "no instruction": 3, "cut": 4, "the end": 5, "behind": 6, "ahead": -1} {
		refuses(t, what, p, b, at, 0x11, api.ErrRelInsn)
		refuses(t, what+", out of range", p, b, at, 3, api.ErrRelInsn)
	}
	for _, at := range far {
		refuses(t, "far", p, b, at, 0, api.ErrRelInsn)
		refuses(t, "far of nothing", p, nil, at, 0, api.ErrRelInsn)
	}
	refuses(t, "nothing", p, nil, 0, 0, api.ErrRelInsn)
	refuses(t, "another class", p, []byte{0x1F, 0x11, 0x44, 0x88}, 0, 0, api.ErrRelInsn)
	refuses(t, "an excepted value there", p, []byte{0x2C, 0xFF}, 0, 0, api.ErrRelInsn)
	refuses(t, "spare room", p, b[:1], 0, 0, api.ErrRelInsn)
	refuses(t, "spare room behind", p, b[:4], 4, 0, api.ErrRelInsn)
	refuses(t, "another's class", of("insn w S (slice 2 0)"), b, 0, 0, api.ErrRelInsn)
	refuses(t, "a class of as many bits", of("insn right S (slice 11 0)"), []byte{0xA0, 0x8F, 0x71}, 0, 0, api.ErrRelInsn)
}

// TestApplyInsnRange: a value that the class excepts; the place is told by the encoded bits, not by the value.
func TestApplyInsnRange(t *testing.T) {
	for _, c := range []struct {
		rel      string
		b        []byte
		excepted []int
		right    []int
	}{
		{"insn s S (slice 7 0)", []byte{0x2C, 0xF0}, []int{-1, 0xFF, 3, 0x103}, []int{-2, 6, 2, 0x7F}},
		{"insn u S (slice 7 0)", []byte{0xB0, 0x1F}, []int{3, 255, -1, 0x103}, []int{12, 4, 254}},
		{"insn u S (slice 3 0)", []byte{0xB0, 0x1F}, []int{3, 0xF3}, []int{12, 15, 255}},
		{"insn u S (round 1) (slice 8 1)", []byte{0xB0, 0x1F}, []int{5, 6, 509, 510}, []int{4, 7, 508, 511}},
		{"insn w S (slice 2 0)", []byte{0x90}, []int{1, 9}, []int{0, 8, 2, -8}},
		{"insn high S (slice 31 12)", []byte{0x4A, 0, 0, 4}, []int{1 << 24, 1<<24 + 4095}, []int{4096, 1<<24 - 1}},
		{"insn low S (slice 11 0)", []byte{0x5A, 0, 8}, []int{7, -9, 0xFF7, 4103}, []int{-7, 9, 8}},
	} {
		for _, v := range c.excepted {
			refuses(t, c.rel, of(c.rel), c.b, 0, v, api.ErrRange)
			refuses(t, c.rel, of(c.rel), slices.Concat([]byte{0}, c.b, []byte{0}), 1, v, api.ErrRange)
		}
		for _, v := range c.right {
			if out, e := of(c.rel).Apply(0, c.b, 0, v); e != api.OK || len(out) != len(c.b) {
				t.Errorf("%s: %d: % x %v", c.rel, v, out, e)
			}
		}
	}
}

// TestApplyUnchecked: what Check refuses is put in all the same.
func TestApplyUnchecked(t *testing.T) {
	applies(t, "range", of("insn u S (unsigned 4) (slice 7 0)"), []byte{0xB0, 0x1F}, 0x1234A5, []byte{0xB5, 0x1A})
	applies(t, "alignment", of("insn u S (align 8) (slice 7 0)"), []byte{0xB0, 0x1F}, 0xA5, []byte{0xB5, 0x1A})
	applies(t, "pair", of("pair high low S (signed 8) (align 12)"), []byte{0x40, 0, 0, 0x0E, 0x50, 0, 0x0B}, 0x12345678, []byte{0x40, 0x12, 0x34, 0x54, 0x50, 0x67, 0x88})
}

// pairCases are relocations of pairs of toy.
var pairCases = []struct {
	rel  string
	b    []byte
	v    int
	want []byte
}{
	{"pair high low S", []byte{0x49, 0xFF, 0xFF, 0xFE, 0x57, 0xAA, 0xAB}, 0x12345678, []byte{0x49, 0x12, 0x34, 0x54, 0x57, 0x67, 0x88}},
	{"pair high low S", []byte{0x49, 0, 0, 4, 0x57, 0, 8}, -1, []byte{0x49, 0xFF, 0xFF, 0xF4, 0x57, 0xFF, 0xF8}},
	{"pair high low S", []byte{0x49, 0, 0, 4, 0x57, 0, 8}, 0x5512345FFF, []byte{0x49, 0x12, 0x34, 0x54, 0x57, 0xFF, 0xF8}},
	// Round counts for the first one alone.
	{"pair high low S (round 2048)", []byte{0x49, 0, 0, 4, 0x57, 0, 8}, 0x123457FF, []byte{0x49, 0x12, 0x34, 0x54, 0x57, 0x7F, 0xF8}},
	{"pair high low S (round 2048)", []byte{0x49, 0, 0, 4, 0x57, 0, 8}, 0x12345800, []byte{0x49, 0x12, 0x34, 0x64, 0x57, 0x80, 0x08}},
	{"pair high low S (round 2048)", []byte{0x49, 0, 0, 4, 0x57, 0, 8}, -2048, []byte{0x49, 0, 0, 4, 0x57, 0x80, 0x08}},
	{"pair high low S (round 1)", []byte{0x49, 0, 0, 4, 0x57, 0, 8}, 0x5FFF, []byte{0x49, 0, 0, 0x64, 0x57, 0xFF, 0xF8}},
	{"pair high low S (round 4294967295)", []byte{0x49, 0, 0, 4, 0x57, 0, 8}, 0x3001, []byte{0x49, 0, 0, 0x34, 0x57, 0, 0x18}},
	{"pair high low S (round 2048)", []byte{0x49, 0, 0, 4, 0x57, 0, 8}, math.MaxInt, []byte{0x49, 0, 0, 4, 0x57, 0xFF, 0xF8}},
	// Instructions of both classes.
	{"pair high low S", []byte{0xC0, 0, 0, 0, 9, 0xC0, 0, 0, 0, 9}, 0x12345678, []byte{0xC1, 0x23, 0x45, 0, 9, 0xC0, 0, 0, 0x67, 0x89}},
	{"pair left right S", []byte{0x6F, 0xFF, 0xFF, 0x7F, 0xFF}, 0x82345678, []byte{0x68, 0x23, 0x45, 0x76, 0x78}},
	{"pair left low S", []byte{0x6F, 0xFF, 0xFF, 0x5F, 0xFF, 0xFB}, 0x12345678, []byte{0x61, 0x23, 0x45, 0x5F, 0x67, 0x88}},
	{"pair high c S", []byte{0x49, 0, 0, 4, 0xAF, 0, 0x0B}, 0x12345678, []byte{0x49, 0x12, 0x34, 0x54, 0xA0, 0x67, 0x81}},
}

func TestApplyPair(t *testing.T) {
	for _, c := range pairCases {
		applies(t, c.rel, of(c.rel), c.b, c.v, c.want)
	}
}

// TestApplyPairNone: each of the two may be none.
func TestApplyPairNone(t *testing.T) {
	p := of("pair high low S")
	hi, lo := []byte{0x49, 0, 0, 4}, []byte{0x57, 0, 8}
	for what, b := range map[string][]byte{
		"nothing":                 nil,
		"the first alone":         hi,
		"the second alone":        lo,
		"the second cut":          slices.Concat(hi, lo[:2]),
		"the first cut":           hi[:3],
		"turned round":            slices.Concat(lo, hi),
		"the first twice":         slices.Concat(hi, hi, lo),
		"something between":       slices.Concat(hi, []byte{0xF0}, lo),
		"no instruction between":  slices.Concat(hi, []byte{0xE0}, lo),
		"the second has no class": slices.Concat(hi, []byte{0x6F, 0xFF, 0xFF}),
		"the first has no class":  slices.Concat([]byte{0x6F, 0xFF, 0xFF}, lo),
		"neither":                 {0xF0, 0xF0, 0xF0, 0xF0},
	} {
		for _, v := range []int{0, 0x12345678} {
			refuses(t, what, p, b, 0, v, api.ErrRelInsn)
			refuses(t, what, p, slices.Concat([]byte{0xF0, 0xF0}, b), 2, v, api.ErrRelInsn)
		}
	}
	both := slices.Concat(hi, lo)
	for _, at := range append([]int{-1, 1, 2, 3, 4, 5, 7, 8}, far...) {
		refuses(t, "elsewhere", p, both, at, 0, api.ErrRelInsn)
	}
	refuses(t, "spare room", p, both[:4], 0, 0, api.ErrRelInsn)
}

// TestApplyPairRange: each of the two may except what comes of its bits; the first one is done ahead of the second.
func TestApplyPairRange(t *testing.T) {
	p := of("pair high low S (round 2048)")
	both := []byte{0x49, 0, 0, 4, 0x57, 0, 8}
	for v, want := range map[int]api.Errno{
		1 << 24: api.ErrRange, 1<<24 + 2047: api.ErrRange, 1<<24 - 2048: api.ErrRange, 1<<24 - 2049: api.OK, 1<<24 + 2048: api.OK,
		7: api.ErrRange, -9: api.ErrRange, 0x5007: api.ErrRange, 6: api.OK, 9: api.OK, 1<<24 + 7: api.ErrRange, 1<<24 - 9: api.ErrRange,
	} {
		if out, e := p.Apply(0, both, 0, v); e != want || (e != api.OK) != (len(out) == 0) {
			t.Errorf("%#x: % x %v, not %v", v, out, e, want)
		}
	}
	refuses(t, "the second one's bits", p, []byte{0x6F, 0xFF, 0xFF, 0x57, 0, 8}, 0, 7, api.ErrRelInsn)
	refuses(t, "the first one's bits, the second none", p, both[:6], 0, 1<<24, api.ErrRange)
	refuses(t, "the second none", p, both[:6], 0, 1<<23, api.ErrRelInsn)
}

// TestApplyOwn: the bytes aren't changed, and an answer is new memory.
func TestApplyOwn(t *testing.T) {
	for _, rel := range []string{"none", "data 2 S", "insn high S (slice 31 12)", "pair high low S"} {
		p := of(rel)
		code := []byte{0x49, 0xFF, 0xFF, 0xFE, 0x57, 0xAA, 0xAB}
		room := slices.Concat(code, []byte{1, 2, 3, 4, 5, 6, 7, 8, 9})
		before := bytes.Clone(room)
		first, e := p.Apply(0, room[:7], 0, 0x12345678)
		if e != api.OK || !bytes.Equal(room, before) {
			t.Errorf("%s: %v: % x", rel, e, room)
		}
		want := bytes.Clone(first)
		second, _ := p.Apply(0, room[:7], 0, 0x12345678)
		for n := range second[:cap(second)] {
			second[:cap(second)][n] = 0xEE
		}
		for n := range room {
			room[n] = 0xDD
		}
		if !bytes.Equal(first, want) {
			t.Errorf("%s: shared: % x, not % x", rel, first, want)
		}
		if third, e := p.Apply(0, code, 0, 0x12345678); e != api.OK || !bytes.Equal(third, want) {
			t.Errorf("%s: % x, %v, not % x", rel, third, e, want)
		}
	}
}

// TestApplyOwnFaults: beside an error nothing is changed.
func TestApplyOwnFaults(t *testing.T) {
	for _, c := range []struct {
		rel   string
		at, v int
		want  api.Errno
	}{
		{"data 8 S", 0, 1, api.ErrBuf}, {"data 4 S", 4, 1, api.ErrBuf}, {"insn low S (slice 11 0)", 0, 1, api.ErrRelInsn},
		{"insn high S (slice 19 0)", 0, 4096, api.ErrRange}, {"pair high low S", 0, 0x1000007, api.ErrRange}, {"pair high low S", 0, 7, api.ErrRange}, {"pair high right S", 0, 5, api.ErrRelInsn},
	} {
		code := []byte{0x49, 0xFF, 0xFF, 0xFE, 0x57, 0xAA, 0xAB, 9, 9, 9}
		before := bytes.Clone(code)
		p := of(c.rel)
		refuses(t, c.rel, p, code[:7], c.at, c.v, c.want)
		if !bytes.Equal(code, before) {
			t.Errorf("%s: % x", c.rel, code)
		}
	}
}

// TestApplyWords: of a description by words, too.
func TestApplyWords(t *testing.T) {
	p := made(read(`(isa words word) (class u uns 8) (class high uns 20) (class low sgn 12)
(form one "one i" ((i u)) (i .x0000001) ()) (form hi "hi i" ((i high)) (i .xxxxx0000010) ()) (form lo "lo i" ((i low)) (i .0011) ())
(rel one 1 insn u S (slice 7 0)) (rel two 2 pair high low S (round 2048))`))
	out, e := p.Apply(0, []byte{0x81, 0x55}, 0, 0xAB)
	if e != api.OK || !bytes.Equal(out, []byte{0x01, 0xAB}) {
		t.Errorf("% x %v", out, e)
	}
	out, e = p.Apply(1, []byte{9, 0x02, 0xF8, 0xFF, 0xFF, 0xF3, 0xFF, 9}, 1, 0x12345801)
	if e != api.OK || !bytes.Equal(out, []byte{9, 0x02, 0x60, 0x34, 0x12, 0x13, 0x80, 9}) {
		t.Errorf("% x %v", out, e)
	}
}
