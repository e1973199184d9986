package codec_test

import (
	"bytes"
	"math"
	"reflect"
	"slices"
	"strconv"
	"strings"
	"testing"

	"dovetail/api"
	"dovetail/codec"
	"dovetail/isacheck"
	"dovetail/isadl"
)

// The places of toy's classes and forms.
const (
	classR = iota
	classW
	classP
	classU
	classS
	classPc
	classNx
	classHigh
	classLow
)

const (
	formInc = iota
	formNop
	formPair
	formLow
	formAll
)

// toyText is a right description that has something of every kind; its forms are disjoint in both orders.
const toyText = `(isa toy bytes)
(file x 4 8) (file y 16 64 zero 0) (file v 64 1 zero 63)
(alias a x 3) (alias b y 15)
(flag z) (flag n)
(class r reg x 2) (class w reg y 4 except 0) (class p reg y 3 plus 8)
(class u uns 5 shift 2) (class s sgn 8 except -1 7) (class c pc 12 shift 1) (class n nx 8)
(class high sgn 20) (class low sgn 12)
(form inc "inc d" ((d r)) (.000000 d) ((set (x d) (add (x d) (c 8 1))) (set (flag z) (eq (x d) (c 8 255)))))
(form nop "nop" () (.00100000) ())
(form pair "pair d, i" ((d w) (i high)) (.01000000 d i .01000000) ((set (y d) (imm i 64)) (when (flag n) (trap 1))))
(form low "low d, i" ((d w) (i low)) (.01100000 .xxxx0000 d i .01100000) ((st 8 (y d) (ex 7 0 (imm i 12))) (jump next)))
(form all "all d, e, i, j, k, l" ((d p) (e w) (i u) (j s) (k c) (l n)) (.10000000 l[3:0] k[11:6] d[0] j i[0] e d[2:1] i[4:1] k[5:0] l[7:4] .x01x10x0 .10000000) ())
(rel none 0 none) (rel data 1 data 8 (add S A) (unsigned 64) (align 3) (round 2048))
(rel insn 2 insn low (sub S P) (slice 11 0)) (rel pair 3 pair high low (page S))
(use none low insn) (use lo low insn end) (use none s data)
(relax pair low insn)
(macro "two" none ("nop" "nop")) (macro "la d, t" pair ("pair d, t" "low d, t"))
(num base 4096) (reg sp y 4)`

// read is the description of a text that layer 4 reads.
func read(text string) api.Desc {
	d, n, e := isadl.Parse(text)
	if e != api.OK {
		panic(text + ": " + strconv.Itoa(n) + " " + e.Error())
	}
	return d
}

// toy is the description of toyText.
func toy() api.Desc { return read(toyText) }

// made is the codec of a right description.
func made(d api.Desc) *codec.Codec {
	c, e := codec.New(d)
	if e != api.OK {
		panic(e.Error())
	}
	return c
}

// copied is a value that shares nothing with another, each list with spare room that has more parts of its kind.
func copied(v reflect.Value) reflect.Value {
	out := reflect.New(v.Type()).Elem()
	switch v.Kind() {
	case reflect.Struct:
		for n := range v.NumField() {
			out.Field(n).Set(copied(v.Field(n)))
		}
	case reflect.Slice:
		out.Set(reflect.MakeSlice(v.Type(), 0, v.Len()+2))
		for n := range v.Len() {
			out.Set(reflect.Append(out, copied(v.Index(n))))
		}
		for n := range min(2, v.Len()) {
			reflect.Append(out, copied(v.Index(n)))
		}
	default:
		out.Set(v)
	}
	return out
}

// roomy is a copy of a description, each list with spare room.
func roomy(d api.Desc) api.Desc { return copied(reflect.ValueOf(d)).Interface().(api.Desc) }

// whole is a value with all lists made as long as their room.
func whole(v reflect.Value) reflect.Value {
	out := reflect.New(v.Type()).Elem()
	switch v.Kind() {
	case reflect.Struct:
		for n := range v.NumField() {
			out.Field(n).Set(whole(v.Field(n)))
		}
	case reflect.Slice:
		for n := range v.Cap() {
			out.Set(reflect.Append(out, whole(v.Slice(0, v.Cap()).Index(n))))
		}
	default:
		out.Set(v)
	}
	return out
}

// sameRoom says whether descriptions are the same, spare room included.
func sameRoom(a, b api.Desc) bool {
	return reflect.DeepEqual(whole(reflect.ValueOf(a)).Interface(), whole(reflect.ValueOf(b)).Interface())
}

// spoil overwrites all numbers, texts and lists of a value, and what stands in a list's spare room.
func spoil(v reflect.Value) {
	switch v.Kind() {
	case reflect.Struct:
		for n := range v.NumField() {
			spoil(v.Field(n))
		}
	case reflect.Slice:
		l := v.Slice(0, v.Cap())
		for n := range l.Len() {
			spoil(l.Index(n))
		}
	case reflect.Int:
		v.SetInt(v.Int()*7 + 3)
	case reflect.String:
		v.SetString(strings.ReplaceAll(v.String(), "0", "1") + "x")
	case reflect.Bool:
		v.SetBool(!v.Bool())
	}
}

// far are numbers far outside of what is right anywhere.
var far = []int{math.MinInt, math.MinInt + 1, -1 << 32, -1000, 1000, 1 << 33, math.MaxInt - 1, math.MaxInt}

// encodes holds the bytes of an instruction, and that they are it again.
func encodes(t *testing.T, what string, c *codec.Codec, in api.Insn, want []byte) {
	t.Helper()
	b, e := c.Encode(in)
	if e != api.OK || !bytes.Equal(b, want) {
		t.Errorf("%s: %v is % x, %v, not % x", what, in, b, e, want)
		return
	}
	decodes(t, what, c, want, in, len(want))
	for _, behind := range [][]byte{{0}, {0xFF}, {1, 2, 3}, bytes.Repeat([]byte{0x55}, 40)} {
		decodes(t, what, c, append(slices.Clone(want), behind...), in, len(want))
	}
	for n := range want {
		decodesNone(t, what+" cut", c, want[:n])
	}
}

// decodes holds the instruction with which bytes begin.
func decodes(t *testing.T, what string, c *codec.Codec, b []byte, want api.Insn, size int) {
	t.Helper()
	in, n, e := c.Decode(b)
	if e != api.OK || n != size || in.Form != want.Form || !slices.Equal(in.Vals, want.Vals) {
		t.Errorf("%s: % x is %v, %d, %v, not %v, %d", what, b, in, n, e, want, size)
	}
}

// decodesNone holds that bytes begin with no instruction.
func decodesNone(t *testing.T, what string, c *codec.Codec, b []byte) {
	t.Helper()
	in, n, e := c.Decode(b)
	if e != api.ErrNoInsn || n != 0 || in.Form != 0 || len(in.Vals) != 0 {
		t.Errorf("%s: % x is %v, %d, %v", what, b, in, n, e)
	}
}

// refuses holds that an instruction has no bytes.
func refuses(t *testing.T, what string, c *codec.Codec, in api.Insn, want api.Errno) {
	t.Helper()
	if b, e := c.Encode(in); e != want || len(b) != 0 {
		t.Errorf("%s: %v is % x, %v, not %v", what, in, b, e, want)
	}
}

// P6.1

func TestNewRight(t *testing.T) {
	for _, d := range []api.Desc{toy(), read("(isa none word)"), {Order: api.OrderBytes}} {
		if c, e := codec.New(d); c == nil || e != api.OK {
			t.Error(d.Name, c, e)
		}
	}
	d := toy()
	d.Order = api.OrderWord
	if c, e := codec.New(d); c == nil || e != api.OK {
		t.Error("toy by words", c, e)
	}
}

// TestNewNothing: the codec of a description without classes and forms has nothing.
func TestNewNothing(t *testing.T) {
	c := made(read("(isa none word)"))
	refuses(t, "no forms", c, api.Insn{}, api.ErrInsn)
	decodesNone(t, "no forms", c, nil)
	decodesNone(t, "no forms", c, make([]byte, 20))
	if c.Has(0, 0) || c.Canonical(0) {
		t.Error("something of nothing")
	}
}

// faults are in the order in which layer 5 names them.
var faults = []struct {
	what string
	want api.Errno
	put  func(d *api.Desc)
}{
	{"order", api.ErrCheck, func(d *api.Desc) { d.Order = 0 }},
	{"file", api.ErrCheck, func(d *api.Desc) { d.Files[2].Zero = 64 }},
	{"class", api.ErrCheck, func(d *api.Desc) { d.Classes[classU].Shift = 58 }},
	{"pattern", api.ErrPattern, func(d *api.Desc) { d.Forms[formInc].Pieces = nil }},
	{"piece", api.ErrPattern, func(d *api.Desc) { d.Forms[formPair].Pieces[1].Arg = 2 }},
	{"effects", api.ErrType, func(d *api.Desc) { d.Forms[formLow].Sem = []api.Term{{}} }},
	{"clash", api.ErrClash, func(d *api.Desc) { d.Forms[formNop].Pieces[0].Lit = "000000x1" }},
	{"relocation", api.ErrCheck, func(d *api.Desc) { d.Rels[0].Hi = 0 }},
	{"macro", api.ErrCheck, func(d *api.Desc) { d.Macros[1].Rel = 0 }},
}

// TestNewFaults: layer 5's errors come through; the first one, if there are two.
func TestNewFaults(t *testing.T) {
	for n, first := range faults {
		for _, second := range faults[n:] {
			d := toy()
			second.put(&d)
			first.put(&d)
			if c, e := codec.New(d); c != nil || e != first.want {
				t.Errorf("%s, %s: %v %v, not %v", first.what, second.what, c, e, first.want)
			}
		}
	}
	if c, e := codec.New(api.Desc{}); c != nil || e != api.ErrCheck {
		t.Error("the zero description", c, e)
	}
}

// probes are instructions of toy, and bytes.
func probes() ([]api.Insn, [][]byte) {
	ins := []api.Insn{
		{Form: formInc, Vals: []int{2}}, {Form: formNop}, {Form: formPair, Vals: []int{15, -5}}, {Form: formLow, Vals: []int{1, 2047}},
		{Form: formAll, Vals: []int{9, 3, 124, -128, -4096, 127}}, {Form: formAll, Vals: []int{9, 3, 124, 7, -4096, 127}}, {Form: formAll, Vals: []int{7, 3, 124, 8, 0, 0}},
		{Form: 5}, {Form: -1}, {Form: formNop, Vals: []int{0}}, {Form: formPair, Vals: []int{0, 0}},
	}
	bs := [][]byte{
		nil, {}, {3}, {3, 0}, {0x20}, {0x40, 0x10, 0, 0, 0x40}, {0x40, 0x10, 0, 0, 0x41}, {0x40, 0, 0, 0, 0x40}, {0x60, 0xA0, 0x1F, 0xFF, 0x60}, {0x60, 0x11, 0x1F, 0xFF, 0x60},
		{0x80, 0, 0, 0x13, 0x10, 0, 0x28, 0x80}, {0x80, 0, 0, 0x10, 0x10, 0, 0x28, 0x80}, {0x80, 0xFF, 0xEF, 0xFF, 0xFF, 0xFF, 0xBA, 0x80}, {0x80, 0xFF, 0xFF, 0xFF, 0xFF, 0xFF, 0xBA, 0x80}, {0xFF},
	}
	return ins, bs
}

// said is all that a codec answers of the probes, as text.
func said(c *codec.Codec) string {
	var s strings.Builder
	ints := func(l ...int) {
		for _, n := range l {
			s.WriteString(strconv.Itoa(n) + " ")
		}
		s.WriteString("\n")
	}
	ins, bs := probes()
	for _, in := range ins {
		b, e := c.Encode(in)
		s.WriteString(string(b))
		ints(len(b), int(e))
	}
	for _, b := range bs {
		in, n, e := c.Decode(b)
		ints(in.Form, n, int(e))
		ints(in.Vals...)
	}
	for n := -1; n < 10; n++ {
		ints(n)
		if c.Canonical(n) {
			ints(1)
		}
		for v := -300; v < 300; v++ {
			if c.Has(n, v) {
				ints(v)
			}
		}
	}
	return s.String()
}

// TestDescriptionChanged: what is done to the description behind New is nothing to the codec.
func TestDescriptionChanged(t *testing.T) {
	d := roomy(toy())
	c := made(d)
	before := said(c)
	if before != said(made(toy())) {
		t.Error("another answer of a description with spare room")
	}
	spoil(reflect.ValueOf(&d).Elem())
	if said(c) != before {
		t.Error("spoilt")
	}
	for n := range d.Forms {
		d.Forms[n] = api.Form{}
	}
	for n := range d.Classes {
		d.Classes[n] = api.Class{}
	}
	if said(c) != before {
		t.Error("emptied")
	}
}

// TestNothingChanged: no call changes a description, or what stands in a list's spare room.
func TestNothingChanged(t *testing.T) {
	for n := -1; n < len(faults); n++ {
		d := toy()
		if n >= 0 {
			faults[n].put(&d)
		}
		d = roomy(d)
		before := roomy(d)
		c, e := codec.New(d)
		if e == api.OK {
			said(c)
		}
		if !sameRoom(d, before) {
			t.Errorf("fault %d: changed: %+v\nfrom %+v", n, d, before)
		}
	}
}

// TestSameAgain: an answer hangs on the description and what is handed in alone, whatever was asked ahead.
func TestSameAgain(t *testing.T) {
	c, other := made(toy()), made(read("(isa other word) (class u uns 8) (form f \"f i\" ((i u)) (i) ())"))
	before := said(c)
	if b, e := other.Encode(api.Insn{Vals: []int{7}}); e != api.OK || !bytes.Equal(b, []byte{7}) {
		t.Error(b, e)
	}
	for range 3 {
		if said(c) != before || said(made(toy())) != before {
			t.Error("another answer")
		}
	}
}

// TestSizes: an instruction has as many bytes as layer 5 says.
func TestSizes(t *testing.T) {
	ins, _ := probes()
	d := toy()
	c := made(d)
	for n := range 5 {
		if b, e := c.Encode(ins[n]); e != api.OK || len(b) != isacheck.Size(d, ins[n].Form) {
			t.Error(ins[n], b, e)
		}
	}
}
