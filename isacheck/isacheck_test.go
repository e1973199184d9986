package isacheck_test

import (
	"math"
	"reflect"
	"strconv"
	"testing"

	"dovetail/api"
	"dovetail/isacheck"
	"dovetail/isadl"
)

// The places of toy's files, classes, forms and relocations.
const (
	fileX = iota
	fileY
	fileV
)

const (
	classR = iota
	classW
	classP
	classU
	classS
	classPc
	classNx
	classHigh
	classLow
)

const (
	formInc = iota
	formNop
	formPair
	formLow
)

const (
	relNone = iota
	relData
	relInsn
	relPair
)

// toyText is a right description that has something of every kind; its forms are disjoint in both orders.
const toyText = `(isa toy bytes)
(file x 4 8) (file y 16 64 zero 0) (file v 64 1 zero 63)
(alias a x 3) (alias b y 15)
(flag z) (flag n)
(class r reg x 2) (class w reg y 4 except 0) (class p reg y 3 plus 8)
(class u uns 5 shift 2) (class s sgn 8) (class c pc 12 shift 1) (class n nx 8)
(class high sgn 20) (class low sgn 12)
(form inc "inc d" ((d r)) (.000000 d) ((set (x d) (add (x d) (c 8 1))) (set (flag z) (eq (x d) (c 8 255)))))
(form nop "nop" () (.00100000) ())
(form pair "pair d, i" ((d w) (i high)) (.01000000 d i .01000000) ((set (y d) (imm i 64)) (when (flag n) (trap 1))))
(form low "low d, i" ((d w) (i low)) (.01100000 .xxxx0000 d i .01100000) ((st 8 (y d) (ex 7 0 (imm i 12))) (jump next)))
(rel none 0 none) (rel data 1 data 8 (add S A) (unsigned 64) (align 3) (round 2048))
(rel insn 2 insn low (sub S P) (slice 11 0)) (rel pair 3 pair high low (page S))
(use none low insn) (use lo low insn end) (use none s data)
(relax pair low insn)
(macro "two" none ("nop" "nop")) (macro "la d, t" pair ("pair d, t" "low d, t"))
(num base 4096) (reg sp y 4)`

// toy is the description of toyText.
func toy() api.Desc { return read(toyText) }

// read is the description of a text that layer 4 reads.
func read(text string) api.Desc {
	d, n, e := isadl.Parse(text)
	if e != api.OK {
		panic(text + ": " + strconv.Itoa(n) + " " + e.Error())
	}
	return d
}

// copied is a value that shares nothing with another, each list with spare room that has more parts of its kind.
func copied(v reflect.Value) reflect.Value {
	out := reflect.New(v.Type()).Elem()
	switch v.Kind() {
	case reflect.Struct:
		for n := range v.NumField() {
			out.Field(n).Set(copied(v.Field(n)))
		}
	case reflect.Slice:
		out.Set(reflect.MakeSlice(v.Type(), 0, v.Len()+2))
		for n := range v.Len() {
			out.Set(reflect.Append(out, copied(v.Index(n))))
		}
		for n := range min(2, v.Len()) {
			reflect.Append(out, copied(v.Index(n)))
		}
	default:
		out.Set(v)
	}
	return out
}

// whole is a value with all lists made as long as their room.
func whole(v reflect.Value) reflect.Value {
	out := reflect.New(v.Type()).Elem()
	switch v.Kind() {
	case reflect.Struct:
		for n := range v.NumField() {
			out.Field(n).Set(whole(v.Field(n)))
		}
	case reflect.Slice:
		for n := range v.Cap() {
			out.Set(reflect.Append(out, whole(v.Slice(0, v.Cap()).Index(n))))
		}
	default:
		out.Set(v)
	}
	return out
}

// roomy is a copy of a description, each list with spare room.
func roomy(d api.Desc) api.Desc { return copied(reflect.ValueOf(d)).Interface().(api.Desc) }

// sameRoom says whether descriptions are the same, spare room included.
func sameRoom(a, b api.Desc) bool {
	return reflect.DeepEqual(whole(reflect.ValueOf(a)).Interface(), whole(reflect.ValueOf(b)).Interface())
}

// checks holds what Check answers of a description.
func checks(t *testing.T, what string, d api.Desc, place int, want api.Errno) {
	t.Helper()
	if n, e := isacheck.Check(d); n != place || e != want {
		t.Errorf("%s: %d %d, not %d %d", what, n, e, place, want)
	}
}

// far are numbers far outside of what is right anywhere.
var far = []int{math.MinInt, math.MinInt + 1, -1 << 32, -1000, 1000, 1 << 32 * 2, math.MaxInt - 1, math.MaxInt}

// bound holds what Check answers of toy with a number set by a function: the wrong ones, and numbers far outside, are faults.
func bound(t *testing.T, what string, set func(d *api.Desc, n int), right, wrong []int, place int, fault api.Errno) {
	t.Helper()
	for _, n := range right {
		d := toy()
		set(&d, n)
		checks(t, what+" "+strconv.Itoa(n), d, 0, api.OK)
	}
	for _, l := range [][]int{wrong, far} {
		for _, n := range l {
			d := toy()
			set(&d, n)
			checks(t, what+" "+strconv.Itoa(n), d, place, fault)
		}
	}
}

// P5.1

func TestCheckRight(t *testing.T) {
	checks(t, "toy", toy(), 0, api.OK)
	d := toy()
	d.Order = api.OrderWord
	checks(t, "toy by words", d, 0, api.OK)
	checks(t, "without anything", read("(isa none word)"), 0, api.OK)
	checks(t, "the example of layer 4", read(`(isa toy word) (file x 4 8) (class r reg x 2) (form inc "inc d" ((d r)) (.000000 d) ((set (x d) (add (x d) (c 8 1)))))`), 0, api.OK)
}

func TestCheckEmpty(t *testing.T) {
	checks(t, "the zero description", api.Desc{}, -1, api.ErrCheck)
	checks(t, "an order alone", api.Desc{Order: api.OrderWord}, 0, api.OK)
}

// TestCheckNilAndEmpty: a list that is nil and one without parts are one.
func TestCheckNilAndEmpty(t *testing.T) {
	d := api.Desc{Order: 1, Files: []api.File{}, Aliases: []api.Alias{}, Flags: []string{}, Classes: []api.Class{}, Forms: []api.Form{}, Rels: []api.Rel{}, Uses: []api.Use{}, Relaxes: []api.Relaxed{}, Macros: []api.Macro{}, Nums: []api.Named{}, Regs: []api.Alias{}}
	checks(t, "empty lists", d, 0, api.OK)
	d.Forms = []api.Form{{Args: []api.Arg{}, Pieces: []api.Piece{{Arg: -1, Lit: "00000000"}}, Sem: []api.Term{{Op: api.OpSys, Kids: []api.Term{}}}}}
	checks(t, "a form of empty lists", d, 0, api.OK)
}

// fault is a description's fault, what Check says of it, and how to put it into toy.
type fault struct {
	what  string
	place int
	want  api.Errno
	put   func(d *api.Desc)
}

// faults are in the order in which P5.1 names them.
var faults = []fault{
	{"parts", -1, api.ErrCheck, func(d *api.Desc) { d.Files[fileV].Zero = 64 }},
	{"pattern 0", 0, api.ErrPattern, func(d *api.Desc) { d.Forms[0].Pieces = nil }},
	{"effects 0", 0, api.ErrType, func(d *api.Desc) { d.Forms[0].Sem = []api.Term{{}} }},
	{"pattern 1", 1, api.ErrPattern, func(d *api.Desc) { d.Forms[1].Pieces = nil }},
	{"effects 1", 1, api.ErrType, func(d *api.Desc) { d.Forms[1].Sem = []api.Term{{}} }},
	{"pattern 3", 3, api.ErrPattern, func(d *api.Desc) { d.Forms[3].Pieces = nil }},
	{"effects 3", 3, api.ErrType, func(d *api.Desc) { d.Forms[3].Sem = []api.Term{{}} }},
	{"clash 1", 1, api.ErrClash, func(d *api.Desc) { d.Forms[1].Pieces[0].Lit = "000000x1" }},
	{"clash 2", 2, api.ErrClash, func(d *api.Desc) { d.Forms[2].Pieces[0].Lit = "0010000x" }},
	{"clash 3", 3, api.ErrClash, func(d *api.Desc) { d.Forms[3].Pieces[0].Lit = "0010000x" }},
	{"relocations", -1, api.ErrCheck, func(d *api.Desc) { d.Rels[0].Hi = 0 }},
}

func TestCheckOneFault(t *testing.T) {
	for _, f := range faults {
		d := toy()
		f.put(&d)
		checks(t, f.what, d, f.place, f.want)
	}
}

// TestCheckTwoFaults: of several faults the one counts that is named first. The later one is put first, for both may change one pattern.
func TestCheckTwoFaults(t *testing.T) {
	for n, first := range faults {
		for _, second := range faults[n+1:] {
			d := toy()
			second.put(&d)
			first.put(&d)
			checks(t, first.what+", "+second.what, d, first.place, first.want)
		}
	}
}

func TestCheckAllFaults(t *testing.T) {
	for n := range faults {
		d := toy()
		for k := len(faults) - 1; k >= n; k-- {
			faults[k].put(&d)
		}
		checks(t, "all from "+faults[n].what+" on", d, faults[n].place, faults[n].want)
	}
}

// What holds of all calls.

// TestNothingChanged: no call changes a description or a term, or what stands in a list's spare room.
func TestNothingChanged(t *testing.T) {
	for n := -1; n < len(faults); n++ {
		d := toy()
		if n >= 0 {
			faults[n].put(&d)
		}
		d = roomy(d)
		before := roomy(d)
		isacheck.Check(d)
		for i := -1; i <= len(d.Forms); i++ {
			isacheck.Size(d, i)
			for j := range d.Forms {
				isacheck.Disjoint(d, i, j)
				for _, effect := range d.Forms[j].Sem {
					isacheck.Width(d, i, effect)
					for _, k := range effect.Kids {
						isacheck.Width(d, i, k)
					}
				}
			}
		}
		if !sameRoom(d, before) {
			t.Errorf("fault %d: changed: %+v\nfrom %+v", n, d, before)
		}
	}
}

// TestSameAgain: an answer hangs on what is handed in alone.
func TestSameAgain(t *testing.T) {
	bad := toy()
	faults[len(faults)-1].put(&bad)
	for range 3 {
		checks(t, "toy", toy(), 0, api.OK)
		checks(t, "bad", bad, -1, api.ErrCheck)
		if isacheck.Size(toy(), formPair) != 5 || !isacheck.Disjoint(toy(), formInc, formNop) || isacheck.Width(toy(), formInc, api.Term{Op: api.OpPc}) != 64 {
			t.Error("another answer")
		}
	}
}
