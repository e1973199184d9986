package calc_test

import (
	"bytes"
	"math"
	"reflect"
	"slices"
	"strconv"
	"strings"
	"testing"

	"dovetail/api"
	"dovetail/calc"
	"dovetail/isacheck"
	"dovetail/isadl"
)

// toyText is a right description of forms of many lengths, which have operands of classes of each kind; its relocations are of each kind.
const toyText = `(isa toy bytes)
(file x 16 64)
(class r reg x 4) (class w reg x 3 plus 8 except 9)
(class u uns 8 shift 2 except 12 1020) (class s sgn 8 shift 1 except -2 6)
(class c pc 12) (class n nx 4 shift 3) (class q sgn 64)
(class high uns 20 except 4096) (class low sgn 12 except 7 -9)
(class left sgn 20 shift 4) (class right uns 12 shift 2)
(form two "two b, i, a" ((b u) (i r) (a u)) (.0001xxxx a .x1 b .0x i) ())
(form sgn "sgn i, s" ((i r) (s s)) (.0010 i s) ())
(form wide "wide q" ((q q)) (.0011xxxx q) ())
(form hi "hi i, j" ((i r) (j high)) (.0100 i j .x1x0) ())
(form lo "lo i, j" ((i r) (j low)) (.0101 i j .10xx) ())
(form left "left j" ((j left)) (.0110 j) ())
(form right "right j" ((j right)) (.0111 j) ())
(form next "next j" ((j n)) (.1000 j) ())
(form reg "reg j" ((j w)) (.1001x j) ())
(form here "here j" ((j c)) (.1010xxxx j .x0x1) ())
(form cut "cut a" ((a u)) (.1011 a[3:0] .x0x1 a[7:4]) ())
(form both "both j, i" ((j low) (i high)) (.1100 i j .1001) ())
(form nop "nop" () (.1111xxxx) ())
(rel none 0 none)
(rel data 1 data 4 (sub (add S A) P) (either 32) (align 2))
(rel insn 2 insn u S (unsigned 10) (slice 9 2))
(rel pair 3 pair high low (sub S P) (signed 32) (round 2048))
(rel far 4 insn s (page G) (round 2048) (slice 19 12))`

// The places of toy's relocations.
const (
	relNone = iota
	relData
	relInsn
	relPair
	relFar
)

// rels is how many relocations toy has.
const rels = 5

// read is the description of a text that layer 4 reads.
func read(text string) api.Desc {
	d, n, e := isadl.Parse(text)
	if e != api.OK {
		panic(text + ": " + strconv.Itoa(n) + " " + e.Error())
	}
	return d
}

// toy is the description of toyText.
func toy() api.Desc { return read(toyText) }

// made is the patcher of a right description.
func made(d api.Desc) *calc.Patcher {
	p, e := calc.New(d)
	if e != api.OK {
		panic(e.Error())
	}
	return p
}

// of is the patcher of toy with a relocation of its own alone, which has the place 0.
func of(rel string) *calc.Patcher {
	forms, _, _ := strings.Cut(toyText, "(rel")
	return made(read(forms + "(rel own 1 " + rel + ")"))
}

// far are numbers far outside of what is right anywhere.
var far = []int{math.MinInt, math.MinInt + 1, -1 << 32, -1000, 1000, 1 << 33, math.MaxInt - 1, math.MaxInt}

// copied is a value that shares nothing with another, each list with spare room that has more parts of its kind.
func copied(v reflect.Value) reflect.Value {
	out := reflect.New(v.Type()).Elem()
	switch v.Kind() {
	case reflect.Struct:
		for n := range v.NumField() {
			out.Field(n).Set(copied(v.Field(n)))
		}
	case reflect.Slice:
		out.Set(reflect.MakeSlice(v.Type(), 0, v.Len()+2))
		for n := range v.Len() {
			out.Set(reflect.Append(out, copied(v.Index(n))))
		}
		for n := range min(2, v.Len()) {
			reflect.Append(out, copied(v.Index(n)))
		}
	default:
		out.Set(v)
	}
	return out
}

// roomy is a copy of a description, each list with spare room.
func roomy(d api.Desc) api.Desc { return copied(reflect.ValueOf(d)).Interface().(api.Desc) }

// whole is a value with all lists made as long as their room.
func whole(v reflect.Value) reflect.Value {
	out := reflect.New(v.Type()).Elem()
	switch v.Kind() {
	case reflect.Struct:
		for n := range v.NumField() {
			out.Field(n).Set(whole(v.Field(n)))
		}
	case reflect.Slice:
		for n := range v.Cap() {
			out.Set(reflect.Append(out, whole(v.Slice(0, v.Cap()).Index(n))))
		}
	default:
		out.Set(v)
	}
	return out
}

// sameRoom says whether descriptions are the same, spare room included.
func sameRoom(a, b api.Desc) bool {
	return reflect.DeepEqual(whole(reflect.ValueOf(a)).Interface(), whole(reflect.ValueOf(b)).Interface())
}

// spoil overwrites all numbers, texts and lists of a value, and what stands in a list's spare room.
func spoil(v reflect.Value) {
	switch v.Kind() {
	case reflect.Struct:
		for n := range v.NumField() {
			spoil(v.Field(n))
		}
	case reflect.Slice:
		l := v.Slice(0, v.Cap())
		for n := range l.Len() {
			spoil(l.Index(n))
		}
	case reflect.Int:
		v.SetInt(v.Int()*7 + 3)
	case reflect.String:
		v.SetString(strings.ReplaceAll(v.String(), "0", "1") + "x")
	case reflect.Bool:
		v.SetBool(!v.Bool())
	}
}

// probes are values, and instructions of toy, one behind the other.
func probes() ([]int, []byte) {
	vs := []int{0, 4, -4, 24, 2048, 0x12345678, -2049, 0x7000, -1 << 31, 1 << 40}
	return vs, []byte{0x1F, 0x11, 0x44, 0x88, 0x41, 0x11, 0x11, 0x14, 0x52, 0x22, 0x28, 0x2F, 0xFF, 0xF3, 0xF4, 0xF5, 0xF6, 0xF7}
}

// said is all that a patcher of toy answers of the probes, as a text.
func said(p *calc.Patcher) string {
	var s strings.Builder
	vs, b := probes()
	for rel := -1; rel <= rels; rel++ {
		v, e := p.Value(rel, api.Env{S: 0x123456, A: 7, P: 0x1001, G: 0x54321, T: 99, H: 0x777})
		s.WriteString(strconv.Itoa(v) + e.Error() + "\n")
		for _, v := range vs {
			s.WriteString(p.Check(rel, v).Error())
			for at := range len(b) + 1 {
				out, e := p.Apply(rel, b, at, v)
				s.WriteString(string(out) + e.Error())
			}
		}
	}
	return s.String()
}

// P11.1, New

func TestNewRight(t *testing.T) {
	for _, d := range []api.Desc{toy(), read("(isa none word)"), {Order: api.OrderBytes}} {
		if p, e := calc.New(d); p == nil || e != api.OK {
			t.Error(d.Name, p, e)
		}
	}
	d := toy()
	d.Order = api.OrderWord
	if _, e := isacheck.Check(d); e != api.OK {
		d.Forms = nil
	}
	if p, e := calc.New(d); p == nil || e != api.OK {
		t.Error("toy by words", p, e)
	}
}

// TestNewNothing: a description without relocations has none.
func TestNewNothing(t *testing.T) {
	p := made(read("(isa none word)"))
	for _, rel := range append([]int{-1, 0, 1}, far...) {
		v, e := p.Value(rel, api.Env{S: 1})
		b, f := p.Apply(rel, []byte{1}, 0, 0)
		if v != 0 || e != api.ErrRel || len(b) != 0 || f != api.ErrRel || p.Check(rel, 0) != api.ErrRel {
			t.Error(rel, v, e, b, f)
		}
	}
}

// faults are in the order in which layer 5 names them.
var faults = []struct {
	what string
	want api.Errno
	put  func(d *api.Desc)
}{
	{"order", api.ErrCheck, func(d *api.Desc) { d.Order = 0 }},
	{"class", api.ErrCheck, func(d *api.Desc) { d.Classes[2].Shift = 58 }},
	{"pattern", api.ErrPattern, func(d *api.Desc) { d.Forms[0].Pieces = nil }},
	{"effects", api.ErrType, func(d *api.Desc) { d.Forms[3].Sem = []api.Term{{}} }},
	{"clash", api.ErrClash, func(d *api.Desc) { d.Forms[12].Pieces[0].Lit = "001xxxxx" }},
	{"relocation", api.ErrCheck, func(d *api.Desc) { d.Rels[relData].Bytes = 9 }},
	{"formula", api.ErrCheck, func(d *api.Desc) { d.Rels[relPair].Calc.Kids = nil }},
	{"use", api.ErrCheck, func(d *api.Desc) { d.Uses = []api.Use{{}} }},
}

// TestNewFaults: layer 5's errors come through; the first one, if there are two.
func TestNewFaults(t *testing.T) {
	for n, first := range faults {
		for _, second := range faults[n:] {
			d := toy()
			second.put(&d)
			first.put(&d)
			if p, e := calc.New(d); p != nil || e != first.want {
				t.Errorf("%s, %s: %v %v, not %v", first.what, second.what, p, e, first.want)
			}
		}
	}
	if p, e := calc.New(api.Desc{}); p != nil || e != api.ErrCheck {
		t.Error("the zero description", p, e)
	}
}

// TestNewOwn: a description isn't changed, and what is done to it afterwards changes nothing.
func TestNewOwn(t *testing.T) {
	d := roomy(toy())
	want := said(made(toy()))
	p := made(d)
	if !sameRoom(d, roomy(toy())) || said(p) != want || !sameRoom(d, roomy(toy())) {
		t.Error("changed")
	}
	spoil(reflect.ValueOf(&d).Elem())
	if said(p) != want {
		t.Error("kept")
	}
	bad := roomy(toy())
	bad.Rels[relPair].Class2 = 1
	same := roomy(bad)
	if _, e := calc.New(bad); e != api.ErrCheck || !reflect.DeepEqual(bad, same) {
		t.Error("changed beside an error", e)
	}
}

// TestAgain: what was asked ahead changes no answer.
func TestAgain(t *testing.T) {
	p := made(toy())
	if said(p) != said(p) || said(p) != said(made(toy())) {
		t.Error("something else")
	}
}

// P11.1, Value

// env has another number for each of what a formula may name.
var env = api.Env{S: 0x123456789, A: -77, P: 0x5432F, G: 0x7777777, T: 0x1F3, H: 0x2BCDE}

func TestValue(t *testing.T) {
	for _, c := range []struct {
		calc string
		want int
	}{
		{"S", 0x123456789},
		{"A", -77},
		{"P", 0x5432F},
		{"G", 0x7777777},
		{"T", 0x1F3},
		{"H", 0x2BCDE},
		{"0", 0},
		{"12345", 12345},
		{"-12345", -12345},
		{"-999999999999999999", -999999999999999999},
		{"(add S A)", 0x123456789 - 77},
		{"(add A S)", 0x123456789 - 77},
		{"(sub S A)", 0x123456789 + 77},
		{"(sub A S)", -77 - 0x123456789},
		{"(sub P P)", 0},
		{"(sub (add S A) P)", 0x123456789 - 77 - 0x5432F},
		{"(add S (sub A P))", 0x123456789 - 77 - 0x5432F},
		{"(sub S (add A P))", 0x123456789 + 77 - 0x5432F},
		{"(sub S (sub A P))", 0x123456789 + 77 + 0x5432F},
		{"(page S)", 0x123456000},
		{"(page A)", -4096},
		{"(page T)", 0},
		{"(page -1)", -4096},
		{"(page -4096)", -4096},
		{"(page -4097)", -8192},
		{"(page 4095)", 0},
		{"(page 4096)", 4096},
		{"(page -999999999999999999)", -244140625000000 * 4096},
		{"(sub (page (add G A)) (page P))", 0x7777000 - 0x54000},
		{"(page (sub G P))", 0x7723000},
		{"(page (page H))", 0x2B000},
		{"(add (add (add (add (add S A) P) G) T) H)", 0x123456789 - 77 + 0x5432F + 0x7777777 + 0x1F3 + 0x2BCDE},
		{"(sub H (add 1 (sub T (add 2 (sub G 3)))))", 0x2BCDE - 1 - 0x1F3 + 2 + 0x7777777 - 3},
	} {
		for _, kind := range []string{"data 8 ", "insn u ", "pair high low "} {
			slice := ""
			if kind == "insn u " {
				slice = " (slice 7 0)"
			}
			if v, e := of(kind+c.calc+slice).Value(0, env); v != c.want || e != api.OK {
				t.Errorf("%s%s: %#x %v, not %#x", kind, c.calc, v, e, c.want)
			}
		}
	}
}

// TestValueWraps: numbers of 64 bits wrap round.
func TestValueWraps(t *testing.T) {
	e := api.Env{S: math.MaxInt, A: 1, P: math.MinInt, G: -1, T: math.MaxInt, H: 2}
	for _, c := range []struct {
		calc string
		want int
	}{
		{"(add S A)", math.MinInt},
		{"(sub P A)", math.MaxInt},
		{"(sub A P)", math.MinInt + 1},
		{"(add P P)", 0},
		{"(sub G P)", math.MaxInt},
		{"(sub S P)", -1},
		{"(add (add S T) H)", 0},
		{"(page (add S A))", math.MinInt},
		{"(page (sub P A))", math.MaxInt - 4095},
		{"(sub (page S) (page P))", -4096},
		{"(sub (sub (add S A) A) T)", 0},
	} {
		if v, f := of("data 8 "+c.calc).Value(0, e); v != c.want || f != api.OK {
			t.Errorf("%s: %d %v, not %d", c.calc, v, f, c.want)
		}
	}
}

// TestValueUnchecked: a value that the checks refuse is one, and Round isn't part of it.
func TestValueUnchecked(t *testing.T) {
	p := of("data 1 S (signed 8) (align 4) (round 2048)")
	for _, s := range append([]int{0, 1, 15, 128, -129}, far...) {
		if v, e := p.Value(0, api.Env{S: s}); v != s || e != api.OK {
			t.Error(s, v, e)
		}
	}
}

// TestValueNone: of a relocation that is none it is 0, whatever its formula.
func TestValueNone(t *testing.T) {
	d := toy()
	deep := api.Term{Op: api.OpSym}
	// Its parts are shared: who goes through all of them comes to no end.
	for range 60 {
		deep = api.Term{Op: api.OpAdd, Kids: []api.Term{deep, deep}}
	}
	for _, calc := range []api.Term{{}, {Op: api.OpSym}, {Op: api.OpConst, A: 9}, {Op: api.OpAdd}, {Op: api.OpPage}, {Op: 99, Kids: make([]api.Term, 3)}, deep} {
		d.Rels[relNone].Calc = calc
		if v, e := made(d).Value(relNone, env); v != 0 || e != api.OK {
			t.Error(calc, v, e)
		}
	}
}

// TestValueFields: of a formula's part only its operation, its number and its parts count.
func TestValueFields(t *testing.T) {
	d := toy()
	for _, n := range far {
		d.Rels[relData].Calc = api.Term{Op: api.OpConst, A: n}
		if v, e := made(d).Value(relData, env); v != n || e != api.OK {
			t.Error(n, v, e)
		}
	}
	for op, want := range map[int]int{api.OpSym: env.S, api.OpAddend: env.A, api.OpPlace: env.P, api.OpGot: env.G, api.OpTp: env.T, api.OpGotTp: env.H, api.OpConst: 5} {
		for _, w := range []int{0, 1, 8, 64, -1, 1000} {
			d.Rels[relData].Calc = api.Term{Op: op, W: w, A: 5, B: 6}
			if v, e := made(d).Value(relData, env); v != want || e != api.OK {
				t.Error(op, w, v, e)
			}
			d.Rels[relData].Calc = api.Term{Op: api.OpSub, W: w, A: 5, B: 6, Kids: []api.Term{{Op: op, W: w, A: 5}, {Op: api.OpConst, W: w, A: 2}}}
			if v, e := made(d).Value(relData, env); v != want-2 || e != api.OK {
				t.Error(op, w, v, e)
			}
		}
	}
}

// TestValueDeep: a formula of many parts in one another.
func TestValueDeep(t *testing.T) {
	d := toy()
	left, right := api.Term{Op: api.OpSym}, api.Term{Op: api.OpSym}
	for n := range 60000 {
		op := api.OpAdd + n%2
		left = api.Term{Op: op, Kids: []api.Term{left, {Op: api.OpConst, A: n}}}
		right = api.Term{Op: api.OpAdd, Kids: []api.Term{{Op: api.OpConst, A: n}, right}}
	}
	d.Rels[relData].Calc, d.Rels[relPair].Calc = left, right
	p := made(d)
	if v, e := p.Value(relData, api.Env{S: 5}); v != 5-30000 || e != api.OK {
		t.Error(v, e)
	}
	if v, e := p.Value(relPair, api.Env{S: 5}); v != 5+60000*59999/2 || e != api.OK {
		t.Error(v, e)
	}
}

// TestRel: a number that is no relocation's place.
func TestRel(t *testing.T) {
	p := made(toy())
	_, b := probes()
	for _, rel := range append([]int{-2, -1, rels, rels + 1, 128}, far...) {
		v, e := p.Value(rel, env)
		if v != 0 || e != api.ErrRel {
			t.Error("value", rel, v, e)
		}
		for _, v := range append([]int{0, 1, 4}, far...) {
			if e := p.Check(rel, v); e != api.ErrRel {
				t.Error("check", rel, v, e)
			}
			for _, at := range append([]int{0, 1, 4}, far...) {
				if out, e := p.Apply(rel, b, at, v); len(out) != 0 || e != api.ErrRel {
					t.Error("apply", rel, at, v, out, e)
				}
				if out, e := p.Apply(rel, nil, at, v); len(out) != 0 || e != api.ErrRel {
					t.Error("apply to nothing", rel, at, v, out, e)
				}
			}
		}
	}
	for rel := range rels {
		if _, e := p.Value(rel, env); e != api.OK {
			t.Error(rel, e)
		}
	}
}

// TestPlaces: each relocation by its place, not by its number.
func TestPlaces(t *testing.T) {
	d := toy()
	slices.Reverse(d.Rels)
	p, turned := made(toy()), made(d)
	vs, b := probes()
	for rel := range rels {
		v, _ := p.Value(rel, env)
		if w, _ := turned.Value(rels-1-rel, env); v != w {
			t.Error(rel, v, w)
		}
		for _, v := range vs {
			if p.Check(rel, v) != turned.Check(rels-1-rel, v) {
				t.Error(rel, v)
			}
			out, e := p.Apply(rel, b, 0, v)
			same, f := turned.Apply(rels-1-rel, b, 0, v)
			if !bytes.Equal(out, same) || e != f {
				t.Error(rel, v)
			}
		}
	}
}
