package term_test

import (
	"math"
	"reflect"
	"slices"
	"strconv"
	"strings"
	"testing"

	"dovetail/api"
	"dovetail/isacheck"
	"dovetail/isadl"
	"dovetail/mem"
	"dovetail/term"
)

const top = math.MaxUint64

// The places of toy's files.
const (
	fileX = iota
	fileY
	fileV
	fileW
)

// parts are toy's files, flags and classes: files with a Zero and without, wide and narrow, and operands of all kinds.
const parts = `(isa toy bytes)
(file x 4 64 zero 0) (file y 16 8) (file v 3 1 zero 2) (file w 2 33)
(flag z) (flag n)
(class r reg x 2) (class q reg y 3 plus 8 except 9)
(class s sgn 8 except 7) (class u uns 4 shift 2) (class p pc 8 shift 1) (class k nx 8) `

// toy is parts and one form, of the place 0, with some effects. Its operands: the registers d, a of x and e of y, the numbers i, j, t.
func toy(effects string) api.Desc {
	return read(parts + "(form all \"all d, a, e, i, j, t\" ((d r) (a r) (e q) (i s) (j u) (t p)) (.00000000 d a .0 e i .0000 j t) (" + effects + "))")
}

// vals are values of toy's operands: d is x 1, a is x 2, e is y 9, i is -3, j is 8, t is -2.
func vals() []int { return []int{1, 2, 9, -3, 8, -2} }

// all is toy's instruction with these.
func all() api.Insn { return api.Insn{Vals: vals()} }

// size is how many bytes it is told to have.
const size = 6

// state is a sound state of toy, with something in the registers that are Zero.
func state() api.Cpu {
	c := api.Cpu{Pc: 1000, Files: [][]uint64{{5, 64, 72, 1<<63 + 1}, nil, {1, 0, 1}, {1<<33 - 1, 9}}, Flags: []bool{true, false}}
	for n := range 16 {
		c.Files[fileY] = append(c.Files[fileY], uint64(0xA0+n))
	}
	return c
}

// regions are: bytes to read and to write, to read alone, to write alone, to run alone, without a gap; and at the end of all addresses.
func regions() []api.Region {
	return []api.Region{
		{At: 64, Perm: api.PermR | api.PermW, Bytes: []byte{1, 2, 3, 4, 5, 6, 7, 8}},
		{At: 72, Perm: api.PermR, Bytes: []byte{0xF9, 0xFA, 0xFB, 0xFC}},
		{At: 76, Perm: api.PermW, Bytes: []byte{13, 14, 15, 16}},
		{At: 80, Perm: api.PermX, Bytes: []byte{17, 18, 19, 20}},
		{At: top - 3, Perm: api.PermR | api.PermW, Bytes: []byte{0x81, 0x82, 0x83, 0x84}},
	}
}

// memory is a memory of regions.
func memory() *mem.Memory { return memoryOf(regions()) }

func memoryOf(l []api.Region) *mem.Memory {
	m, e := mem.New(l)
	if e != api.OK {
		panic(e.Error())
	}
	return m
}

// read is the description of a text that layer 4 reads.
func read(text string) api.Desc {
	d, n, e := isadl.Parse(text)
	if e != api.OK {
		panic(text + ": " + strconv.Itoa(n) + " " + e.Error())
	}
	return d
}

// made is the Interp of a right description.
func made(d api.Desc) *term.Interp {
	p, e := term.New(d)
	if e != api.OK {
		n, _ := isacheck.Check(d)
		panic("form " + strconv.Itoa(n) + ": " + e.Error())
	}
	return p
}

// copied is a value that shares nothing with another, each list with spare room in which something stands.
func copied(v reflect.Value) reflect.Value {
	out := reflect.New(v.Type()).Elem()
	switch v.Kind() {
	case reflect.Struct:
		for n := range v.NumField() {
			out.Field(n).Set(copied(v.Field(n)))
		}
	case reflect.Slice:
		out.Set(reflect.MakeSlice(v.Type(), 0, v.Len()+2))
		for n := range v.Len() {
			out.Set(reflect.Append(out, copied(v.Index(n))))
		}
		for n := range min(2, v.Len()) {
			reflect.Append(out, copied(v.Index(n)))
		}
	default:
		out.Set(v)
	}
	return out
}

func roomy[T any](v T) T { return copied(reflect.ValueOf(v)).Interface().(T) }

// whole is a value with all lists made as long as their room.
func whole(v reflect.Value) reflect.Value {
	out := reflect.New(v.Type()).Elem()
	switch v.Kind() {
	case reflect.Struct:
		for n := range v.NumField() {
			out.Field(n).Set(whole(v.Field(n)))
		}
	case reflect.Slice:
		for n := range v.Cap() {
			out.Set(reflect.Append(out, whole(v.Slice(0, v.Cap()).Index(n))))
		}
	default:
		out.Set(v)
	}
	return out
}

// sameRoom says whether values are the same, spare room included.
func sameRoom[T any](a, b T) bool {
	return reflect.DeepEqual(whole(reflect.ValueOf(a)).Interface(), whole(reflect.ValueOf(b)).Interface())
}

// spoil overwrites all that stands in a value's lists, spare room included.
func spoil(v reflect.Value) {
	switch v.Kind() {
	case reflect.Struct:
		for n := range v.NumField() {
			spoil(v.Field(n))
		}
	case reflect.Slice:
		l := v.Slice(0, v.Cap())
		for n := range l.Len() {
			spoil(l.Index(n))
		}
	case reflect.Int:
		v.SetInt(v.Int()*7 + 3)
	case reflect.Uint64:
		v.SetUint(v.Uint()*7 + 3)
	case reflect.String:
		v.SetString(v.String() + "x")
	case reflect.Bool:
		v.SetBool(!v.Bool())
	}
}

// same says whether states are the same; a list may be nil or empty.
func same(a, b api.Cpu) bool {
	return a.Pc == b.Pc && slices.Equal(a.Flags, b.Flags) && slices.EqualFunc(a.Files, b.Files, slices.Equal)
}

// sameRegions says whether regions are the same.
func sameRegions(a, b []api.Region) bool { return reflect.DeepEqual(a, b) }

// P8.1

func TestNewRight(t *testing.T) {
	for _, d := range []api.Desc{toy(""), read("(isa none word)"), {Order: api.OrderBytes}, read(rvText), read(a64Text), read(x64Text)} {
		if p, e := term.New(d); p == nil || e != api.OK {
			t.Error(d.Name, p, e)
		}
	}
}

// faults are in the order in which layer 5 names them.
var faults = []struct {
	what string
	want api.Errno
	put  func(d *api.Desc)
}{
	{"order", api.ErrCheck, func(d *api.Desc) { d.Order = 0 }},
	{"file", api.ErrCheck, func(d *api.Desc) { d.Files[0].Width = 65 }},
	{"class", api.ErrCheck, func(d *api.Desc) { d.Classes[0].Bits = 3 }},
	{"pattern", api.ErrPattern, func(d *api.Desc) { d.Forms[0].Pieces = nil }},
	{"effects", api.ErrType, func(d *api.Desc) { d.Forms[0].Sem = []api.Term{{}} }},
	{"trap", api.ErrType, func(d *api.Desc) { d.Forms[0].Sem = []api.Term{{Op: api.OpTrap, A: 16}} }},
	{"clash", api.ErrClash, func(d *api.Desc) { d.Forms = append(d.Forms, d.Forms[0]) }},
	{"relocation", api.ErrCheck, func(d *api.Desc) { d.Rels = []api.Rel{{}} }},
	{"macro", api.ErrCheck, func(d *api.Desc) { d.Macros = []api.Macro{{Rel: 7}} }},
}

// TestNewFaults: layer 5's errors come through; the first one, if there are two.
func TestNewFaults(t *testing.T) {
	for n, first := range faults {
		for _, second := range faults[n:] {
			d := toy("(sys)")
			second.put(&d)
			first.put(&d)
			if p, e := term.New(d); p != nil || e != first.want {
				t.Errorf("%s, %s: %v %v, not %v", first.what, second.what, p, e, first.want)
			}
		}
	}
	if p, e := term.New(api.Desc{}); p != nil || e != api.ErrCheck {
		t.Error("the zero description", p, e)
	}
}

func TestStart(t *testing.T) {
	for _, c := range []struct {
		d      api.Desc
		counts []int
		flags  int
	}{
		{toy(""), []int{4, 16, 3, 2}, 2},
		{read("(isa none word)"), nil, 0},
		{read("(isa flags word) (flag a)"), nil, 1},
		{read("(isa files word) (file x 64 64) (file y 1 1 zero 0)"), []int{64, 1}, 0},
		{read(a64Text), []int{32, 1, 1, 32}, 4},
	} {
		want := api.Cpu{Flags: make([]bool, c.flags)}
		for _, n := range c.counts {
			want.Files = append(want.Files, make([]uint64, n))
		}
		if got := made(c.d).Start(); !same(got, want) {
			t.Errorf("%s: %v, not %v", c.d.Name, got, want)
		}
	}
}

// TestStartNew: each state in which all is 0 is new memory, of which no two lists share any.
func TestStartNew(t *testing.T) {
	p := made(toy(""))
	c, other := p.Start(), p.Start()
	for n := range c.Files {
		before := roomy(c)
		spoil(reflect.ValueOf(&c.Files[n]).Elem())
		for k := range c.Files {
			if k != n && !slices.Equal(c.Files[k], before.Files[k]) {
				t.Error("lists share memory", n, k)
			}
		}
	}
	spoil(reflect.ValueOf(&c).Elem())
	want := api.Cpu{Files: [][]uint64{make([]uint64, 4), make([]uint64, 16), make([]uint64, 3), make([]uint64, 2)}, Flags: make([]bool, 2)}
	if !same(other, want) || !same(p.Start(), want) {
		t.Error("states share memory", other, p.Start())
	}
}

// TestStartSound: an instruction can be done in it.
func TestStartSound(t *testing.T) {
	p := made(toy("(set (x d) next) (sys)"))
	c, did, e := p.Do(all(), size, p.Start(), memory())
	want := p.Start()
	want.Pc, want.Files[fileX][1] = size, size
	if e != api.OK || did != (api.Did{Kind: api.DidSys}) || !same(c, want) {
		t.Error(c, did, e)
	}
}

// said is all that an Interp of toy answers of some instructions, states and terms, as values.
func said(p *term.Interp) []any {
	var out []any
	insns := []api.Insn{all(), {Vals: []int{0, 3, 15, 127, 60, 254}}, {Vals: []int{3, 3, 0, 7, 1, 1}}, {Form: 1, Vals: vals()}, {Vals: []int{4, 2, 9, 0, 0, 0}}}
	for _, in := range insns {
		for _, c := range []api.Cpu{state(), p.Start(), {}} {
			m := memory()
			for _, text := range []string{"(x d)", "(y e)", "(v 2)", "(imm i 64)", "next", "(flag z)", "(ld 32 (x d))", "(w 2)"} {
				b, ok := p.Eval(in, size, c, m, termOf(text))
				out = append(out, b, ok)
			}
			n, did, e := p.Do(in, size, c, m)
			out = append(out, n, did, e, m.Regions(), p.Start())
		}
	}
	return out
}

// many are effects of all kinds.
const many = "(set (x d) (add (x a) (imm i 64))) (set (y e) (ex 7 0 next)) (set (flag n) (flag z)) (when (flag z) (st 16 (x d) (c 16 -2)) (jump (c 64 77))) (sys)"

// TestDescriptionChanged: what is done to the description behind New is nothing to the Interp.
func TestDescriptionChanged(t *testing.T) {
	d := roomy(toy(many))
	p := made(d)
	before := said(p)
	if !reflect.DeepEqual(before, said(made(toy(many)))) {
		t.Error("another answer of a description with spare room")
	}
	spoil(reflect.ValueOf(&d).Elem())
	if !reflect.DeepEqual(before, said(p)) {
		t.Error("spoilt")
	}
	clear(d.Forms)
	clear(d.Classes)
	clear(d.Files)
	if !reflect.DeepEqual(before, said(p)) {
		t.Error("emptied")
	}
}

// TestDescriptionNotChanged: no call changes a description, or what stands in a list's spare room.
func TestDescriptionNotChanged(t *testing.T) {
	for n := -1; n < len(faults); n++ {
		d := toy(many)
		if n >= 0 {
			faults[n].put(&d)
		}
		d = roomy(d)
		before := roomy(d)
		p, e := term.New(d)
		if e == api.OK {
			said(p)
		}
		if !sameRoom(d, before) {
			t.Errorf("fault %d: changed: %+v\nfrom %+v", n, d, before)
		}
	}
}

// TestSameAgain: an answer hangs on the description and what is handed in alone, whatever was asked ahead and of whom.
func TestSameAgain(t *testing.T) {
	p, other := made(toy(many)), made(toy(strings.ReplaceAll(many, "(c 64 77)", "pc")))
	before := said(p)
	if reflect.DeepEqual(said(other), before) {
		t.Error("the same answers of another description")
	}
	for range 3 {
		if !reflect.DeepEqual(said(p), before) || !reflect.DeepEqual(said(made(toy(many))), before) {
			t.Error("another answer")
		}
	}
}
