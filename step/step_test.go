package step_test

import (
	"encoding/binary"
	"math"
	"reflect"
	"slices"
	"strconv"
	"strings"
	"testing"

	"dovetail/api"
	"dovetail/isadl"
	"dovetail/step"
)

const (
	top = math.MaxUint64
	// What a system call that can't be done makes of ret.
	noCall  = 1<<64 - 38
	noBytes = 1<<64 - 14
	noRoom  = 1<<64 - 28
)

// The permissions of regions.
const (
	x   = api.PermX
	w   = api.PermW
	r   = api.PermR
	all = x | w | r
)

// The registers of toy that have a task, in its file x.
const (
	sysno = iota
	ret
	arg0
	arg1
	arg2
)

// parts are toy's files, with a Zero and without, one of them narrow, its flag, classes and forms.
const parts = `(isa toy bytes)
(file x 8 64) (file y 4 64 zero 0) (file v 2 8) (flag z)
(class r reg x 3) (class n reg x 3 except 7) (class k reg y 2) (class i sgn 8) (class w sgn 64) (class t nx 8)
(form nop "nop" () (.00000000) ())
(form li "li d, i" ((d r) (i i)) (.00001 d i) ((set (x d) (imm i 64))))
(form sys "sys" () (.00010000) ((sys)))
(form trap "trap" () (.00011000) ((trap 4)))
(form jmp "jmp t" ((t t)) (.00100000 t) ((jump (add next (imm t 64)))))
(form long "long" () (.00100001 .xxxxxxxxxxxxxxxxxxxxxxxxxxxxxxxxxxxxxxxxxxxxxxxxxxxxxxxx .xxxxxxxxxxxxxxxxxxxxxxxxxxxxxxxxxxxxxxxxxxxxxxxxxxxxxxxx) ((set (flag z) (not (flag z)))))
(form call "call i" ((i i)) (.00100010 i) ((set (x 0) (imm i 64)) (sys)))
(form go "go t" ((t t)) (.00100011 t) ((sys) (jump (add next (imm t 64)))))
(form odd "odd" () (.00100100) ((sys) (trap 5)))
(form gone "gone" () (.00100101) ((sys) (set (x 1) (ld 64 (c 64 3)))))
(form lost "lost" () (.00100110) ((sys) (set (x 1) (c 64 1)) (st 16 (c 64 5) (c 16 3))))
(form liy "liy k, i" ((k k) (i i)) (.001010 k i) ((set (y k) (imm i 64))))
(form big "big d, w" ((d r) (w w)) (.00110 d w[7:0] w[15:8] w[23:16] w[31:24] w[39:32] w[47:40] w[55:48] w[63:56]) ((set (x d) (imm w 64))))
(form ld "ld d, a" ((d r) (a r)) (.01 d a) ((set (x d) (ld 64 (x a)))))
(form st "st d, a" ((d r) (a r)) (.10 d a) ((st 8 (x a) (ex 7 0 (x d)))))
(form inc "inc n" ((n n)) (.11000 n) ((set (x n) (add (x n) (c 64 1)))))
`

// calls are toy's system calls.
const calls = "(num write 1) (num exit 2) (reg sysno x 0) (reg ret x 1) (reg arg0 x 2) (reg arg1 x 3) (reg arg2 x 4)"

// toy is a description that is right, with all that system calls ask for.
func toy() api.Desc { return read(parts + calls) }

// Instructions of toy, as bytes.

func nop() []byte { return []byte{0} }

func li(d int, i int8) []byte { return []byte{0x08 | byte(d), byte(i)} }

func sys() []byte { return []byte{0x10} }

func trap() []byte { return []byte{0x18} }

func jmp(t int8) []byte { return []byte{0x20, byte(t)} }

func long() []byte { return append([]byte{0x21}, "of fifteen, all"[:14]...) }

func call(i int8) []byte { return []byte{0x22, byte(i)} }

func goes(t int8) []byte { return []byte{0x23, byte(t)} }

func odd() []byte { return []byte{0x24} }

func gone() []byte { return []byte{0x25} }

func lost() []byte { return []byte{0x26} }

func liy(k int, i int8) []byte { return []byte{0x28 | byte(k), byte(i)} }

func big(d int, v uint64) []byte { return binary.LittleEndian.AppendUint64([]byte{0x30 | byte(d)}, v) }

func ld(d, a int) []byte { return []byte{0x40 | byte(d<<3|a)} }

func st(d, a int) []byte { return []byte{0x80 | byte(d<<3|a)} }

func inc(n int) []byte { return []byte{0xC0 | byte(n)} }

// write is instructions that write bytes of memory; they do five steps.
func write(fd int8, at, n uint64) []byte {
	return slices.Concat(li(arg0, fd), big(arg1, at), big(arg2, n), li(sysno, 1), sys())
}

// writeSteps is how many these are.
const writeSteps = 5

// exit is instructions that end the machine; they do three steps.
func exit(code int8) []byte { return slices.Concat(li(arg0, code), li(sysno, 2), sys()) }

// read is the description of a text that layer 4 reads.
func read(text string) api.Desc {
	d, n, e := isadl.Parse(text)
	if e != api.OK {
		panic(text + ": " + strconv.Itoa(n) + " " + e.Error())
	}
	return d
}

// state is a sound state of toy at an address, all else 0.
func state(pc uint64) api.Cpu {
	return api.Cpu{Pc: pc, Files: [][]uint64{make([]uint64, 8), make([]uint64, 4), make([]uint64, 2)}, Flags: make([]bool, 1)}
}

// region is a region whose bytes are those of a text.
func region(at uint64, perm int, text string) api.Region {
	return api.Region{At: at, Perm: perm, Bytes: []byte(text)}
}

// start is where the code of the tests lies, and hello where the text hello does.
const (
	start = 16
	hello = 1000
)

// with is the memory of instructions that are run from start on, of the text hello, and of other regions.
func with(code []byte, others ...api.Region) []api.Region {
	return append([]api.Region{{At: start, Perm: x, Bytes: code}, region(hello, r, "hello")}, others...)
}

// made is a machine of what is right.
func made(d api.Desc, c api.Cpu, l []api.Region) *step.Machine {
	m, e := step.New(d, c, l)
	if e != api.OK || m == nil {
		panic(e.Error())
	}
	return m
}

// on is toy's machine at start, with instructions and other regions.
func on(code []byte, others ...api.Region) *step.Machine {
	return made(toy(), state(start), with(code, others...))
}

// event is what was written of a text.
func event(fd uint64, text string) api.Event { return api.Event{Fd: fd, Bytes: []byte(text)} }

// sameTraces says whether traces are the same; a list may be nil or empty.
func sameTraces(a, b api.Trace) bool {
	events := slices.EqualFunc(a.Events, b.Events, func(a, b api.Event) bool {
		return a.Fd == b.Fd && string(a.Bytes) == string(b.Bytes)
	})
	return events && a.Kind == b.Kind && a.Code == b.Code && a.At == b.At && a.Steps == b.Steps
}

// same says whether states are the same; a list may be nil or empty.
func same(a, b api.Cpu) bool {
	return a.Pc == b.Pc && slices.Equal(a.Flags, b.Flags) && slices.EqualFunc(a.Files, b.Files, slices.Equal)
}

// sameRegions says whether regions are the same; a list may be nil or empty.
func sameRegions(a, b []api.Region) bool {
	return slices.EqualFunc(a, b, func(a, b api.Region) bool {
		return a.At == b.At && a.Perm == b.Perm && string(a.Bytes) == string(b.Bytes)
	})
}

// runs holds the trace of a run.
func runs(t *testing.T, what string, m *step.Machine, fuel int, want api.Trace) {
	t.Helper()
	if got := m.Run(fuel); !sameTraces(got, want) {
		t.Errorf("%s: %v, not %v", what, got, want)
	}
}

// has holds what a register of a machine's file x is.
func has(t *testing.T, what string, m *step.Machine, n int, want uint64) {
	t.Helper()
	if got := m.Cpu().Files[0][n]; got != want {
		t.Errorf("%s: register %d is %#x, not %#x", what, n, got, want)
	}
}

// copied is a value that shares nothing with another, each list with spare room in which something stands.
func copied(v reflect.Value) reflect.Value {
	out := reflect.New(v.Type()).Elem()
	switch v.Kind() {
	case reflect.Struct:
		for n := range v.NumField() {
			out.Field(n).Set(copied(v.Field(n)))
		}
	case reflect.Slice:
		out.Set(reflect.MakeSlice(v.Type(), 0, v.Len()+2))
		for n := range v.Len() {
			out.Set(reflect.Append(out, copied(v.Index(n))))
		}
		for n := range min(2, v.Len()) {
			reflect.Append(out, copied(v.Index(n)))
		}
	default:
		out.Set(v)
	}
	return out
}

func roomy[T any](v T) T { return copied(reflect.ValueOf(v)).Interface().(T) }

// whole is a value with all lists made as long as their room.
func whole(v reflect.Value) reflect.Value {
	out := reflect.New(v.Type()).Elem()
	switch v.Kind() {
	case reflect.Struct:
		for n := range v.NumField() {
			out.Field(n).Set(whole(v.Field(n)))
		}
	case reflect.Slice:
		for n := range v.Cap() {
			out.Set(reflect.Append(out, whole(v.Slice(0, v.Cap()).Index(n))))
		}
	default:
		out.Set(v)
	}
	return out
}

// sameRoom says whether values are the same, spare room included.
func sameRoom[T any](a, b T) bool {
	return reflect.DeepEqual(whole(reflect.ValueOf(a)).Interface(), whole(reflect.ValueOf(b)).Interface())
}

// spoil overwrites all that stands in a value's lists, spare room included.
func spoil[T any](v *T) { spoilValue(reflect.ValueOf(v).Elem()) }

func spoilValue(v reflect.Value) {
	switch v.Kind() {
	case reflect.Struct:
		for n := range v.NumField() {
			spoilValue(v.Field(n))
		}
	case reflect.Slice:
		l := v.Slice(0, v.Cap())
		for n := range l.Len() {
			spoilValue(l.Index(n))
		}
	case reflect.Int:
		v.SetInt(v.Int()*7 + 3)
	case reflect.Uint64, reflect.Uint8:
		v.SetUint(v.Uint()&0xF*7 + 3)
	case reflect.String:
		v.SetString(v.String() + "x")
	case reflect.Bool:
		v.SetBool(!v.Bool())
	}
}

// P9.1

// TestNewState: the machine is in the state, with the memory, that are handed in; the regions come by rising At, without those that have no bytes.
func TestNewState(t *testing.T) {
	c := state(77)
	for n := range c.Files {
		for k := range c.Files[n] {
			c.Files[n][k] = uint64(n*16 + k + 1)
		}
	}
	c.Files[0][7], c.Files[1][0], c.Files[2][1] = top, 1<<63+5, 255
	c.Flags[0] = true
	l := []api.Region{region(50, r, "klm"), region(9, w, ""), region(20, all, "abcd"), region(24, x, "e"), region(top, 0, "z")}
	m := made(toy(), c, l)
	runs(t, "nothing", m, 0, api.Trace{Kind: api.EndFuel})
	if got := m.Cpu(); !same(got, c) {
		t.Error(got, c)
	}
	want := []api.Region{region(20, all, "abcd"), region(24, x, "e"), region(50, r, "klm"), region(top, 0, "z")}
	if got := m.Regions(); !sameRegions(got, want) {
		t.Error(got, want)
	}
	for _, l := range [][]api.Region{nil, {}, {{At: 5}}} {
		if got := made(toy(), state(0), l).Regions(); len(got) != 0 {
			t.Error(got)
		}
	}
}

// faulty is all that New is handed.
type faulty struct {
	d api.Desc
	c api.Cpu
	l []api.Region
}

// faults are in the order in which the chapters name them.
var faults = []struct {
	what string
	want api.Errno
	put  func(f *faulty)
}{
	{"order", api.ErrCheck, func(f *faulty) { f.d.Order = 0 }},
	{"file", api.ErrCheck, func(f *faulty) { f.d.Files[2].Width = 65 }},
	{"register with a task", api.ErrCheck, func(f *faulty) { f.d.Regs = append(f.d.Regs, api.Alias{Name: "sp", Num: 8}) }},
	{"pattern", api.ErrPattern, func(f *faulty) { f.d.Forms[0].Pieces = nil }},
	{"effects", api.ErrType, func(f *faulty) { f.d.Forms[0].Sem = []api.Term{{}} }},
	{"clash", api.ErrClash, func(f *faulty) { f.d.Forms = append(f.d.Forms, f.d.Forms[0]) }},
	{"relocation", api.ErrCheck, func(f *faulty) { f.d.Rels = []api.Rel{{}} }},
	{"num", api.ErrAbi, func(f *faulty) { f.d.Nums = nil }},
	{"reg", api.ErrAbi, func(f *faulty) { f.d.Regs = nil }},
	{"width", api.ErrAbi, func(f *faulty) { f.d.Regs = append([]api.Alias{{Name: "arg2", File: 2}}, f.d.Regs...) }},
	{"files", api.ErrCpu, func(f *faulty) { f.c.Files = f.c.Files[1:] }},
	{"register", api.ErrCpu, func(f *faulty) { f.c.Files[2] = []uint64{0, 256} }},
	{"flags", api.ErrCpu, func(f *faulty) { f.c.Flags = nil }},
	{"many regions", api.ErrMemMany, func(f *faulty) { f.l = append(f.l, make([]api.Region, 65)...) }},
	{"perm", api.ErrRegion, func(f *faulty) { f.l = append(f.l, region(5, 8, "a")) }},
	{"beyond", api.ErrRegion, func(f *faulty) { f.l = append(f.l, region(top, r, "ab")) }},
	{"overlap", api.ErrOverlap, func(f *faulty) { f.l = append(f.l, region(hello+4, r, "ab")) }},
}

// TestNewFaults: the first error, if there are two.
func TestNewFaults(t *testing.T) {
	for n, first := range faults {
		for _, second := range faults[n:] {
			f := faulty{toy(), state(start), with(nop())}
			second.put(&f)
			first.put(&f)
			if m, e := step.New(f.d, f.c, f.l); m != nil || e != first.want {
				t.Errorf("%s, %s: %v %v, not %v", first.what, second.what, m, e, first.want)
			}
		}
	}
	if m, e := step.New(api.Desc{}, api.Cpu{}, nil); m != nil || e != api.ErrCheck {
		t.Error("zero values", m, e)
	}
	if api.ErrAbi != 91 {
		t.Error(api.ErrAbi)
	}
}

// without is toy without a num or a reg, with others of nearly its name.
func without(name string) api.Desc {
	d := toy()
	d.Nums = slices.DeleteFunc(d.Nums, func(n api.Named) bool { return n.Name == name })
	d.Regs = slices.DeleteFunc(d.Regs, func(a api.Alias) bool { return a.Name == name })
	for _, near := range []string{name + "s", name[1:], strings.ToUpper(name), ""} {
		d.Nums = append(d.Nums, api.Named{Name: near})
		d.Regs = append(d.Regs, api.Alias{Name: near})
	}
	d.Aliases = append(d.Aliases, api.Alias{Name: name})
	return d
}

// task is a description's register with a task.
func task(d api.Desc, name string) *api.Alias {
	return &d.Regs[slices.IndexFunc(d.Regs, func(a api.Alias) bool { return a.Name == name })]
}

// abi holds what New answers of a description.
func abi(t *testing.T, what string, d api.Desc, want api.Errno) {
	t.Helper()
	if m, e := step.New(d, state(start), nil); e != want || (m == nil) != (want != api.OK) {
		t.Errorf("%s: %v, not %v", what, e, want)
	}
}

// TestNewNums: a description that lacks one of the nums.
func TestNewNums(t *testing.T) {
	for _, name := range []string{"write", "exit"} {
		d := without(name)
		abi(t, "without "+name, d, api.ErrAbi)
		d.Regs = append(d.Regs, api.Alias{Name: name})
		abi(t, "a reg "+name, d, api.ErrAbi)
		d.Nums = append(d.Nums, api.Named{Name: name, Num: 3})
		abi(t, "with "+name, d, api.OK)
	}
}

// TestNewRegs: a description that lacks one of the regs, or has it in a narrow file.
func TestNewRegs(t *testing.T) {
	for _, name := range []string{"sysno", "ret", "arg0", "arg1", "arg2"} {
		d := without(name)
		abi(t, "without "+name, d, api.ErrAbi)
		d.Nums = append(d.Nums, api.Named{Name: name})
		abi(t, "a num "+name, d, api.ErrAbi)
		d.Regs = append(d.Regs, api.Alias{Name: name, File: 2})
		abi(t, "narrow "+name, d, api.ErrAbi)
		// The first of a name counts.
		d.Regs = append(d.Regs, api.Alias{Name: name})
		abi(t, "narrow and wide "+name, d, api.ErrAbi)
		slices.Reverse(d.Regs)
		abi(t, "wide and narrow "+name, d, api.OK)
		for _, width := range []string{"1", "8", "32", "63", "64"} {
			d := toy()
			d.Files[2] = read("(isa one word) (file v 2 " + width + ")").Files[0]
			*task(d, name) = api.Alias{Name: name, File: 2, Num: 1}
			want := api.ErrAbi
			if width == "64" {
				want = api.OK
			}
			abi(t, "width "+width+" of "+name, d, want)
		}
	}
	// Another task may be a narrow register's.
	abi(t, "sp", read(parts+calls+"(reg sp v 1) (reg tp v 0)"), api.OK)
}

// notSound are states that don't fit toy.
func notSound() []api.Cpu {
	var out []api.Cpu
	not := func(change func(c *api.Cpu)) {
		c := state(start)
		change(&c)
		out = append(out, c)
	}
	for n := range 3 {
		not(func(c *api.Cpu) { c.Files[n] = nil })
		not(func(c *api.Cpu) { c.Files[n] = c.Files[n][1:] })
		not(func(c *api.Cpu) { c.Files[n] = append(c.Files[n], 0) })
		not(func(c *api.Cpu) { c.Files = slices.Delete(c.Files, n, n+1) })
	}
	for n := range 2 {
		for bit := 8; bit < 64; bit++ {
			not(func(c *api.Cpu) { c.Files[2][n] = 1 << bit })
		}
		not(func(c *api.Cpu) { c.Files[2][n] = top })
	}
	not(func(c *api.Cpu) { c.Files = nil })
	not(func(c *api.Cpu) { c.Files = append(c.Files, nil) })
	not(func(c *api.Cpu) { c.Files = append(c.Files, []uint64{0}) })
	not(func(c *api.Cpu) { c.Files[0], c.Files[1] = c.Files[1], c.Files[0] })
	not(func(c *api.Cpu) { c.Flags = nil })
	not(func(c *api.Cpu) { c.Flags = append(c.Flags, false) })
	return append(out, api.Cpu{})
}

func TestNewCpu(t *testing.T) {
	for _, c := range notSound() {
		if m, e := step.New(toy(), c, with(nop())); m != nil || e != api.ErrCpu {
			t.Error(c, m, e)
		}
	}
}

// TestNothingThere: a description may have no more than what system calls ask for.
func TestNothingThere(t *testing.T) {
	d := read("(isa none word) (file x 1 64) (num exit 0) (num write 0) (reg arg0 x 0) (reg arg1 x 0) (reg arg2 x 0) (reg ret x 0) (reg sysno x 0)")
	c := api.Cpu{Pc: 5, Files: [][]uint64{{7}}}
	m := made(d, c, nil)
	runs(t, "no memory", m, 3, api.Trace{Kind: api.DidFetch, At: 5, Steps: 1})
	if !same(m.Cpu(), c) || len(m.Regions()) != 0 {
		t.Error(m.Cpu(), m.Regions())
	}
	runs(t, "no forms", made(d, c, []api.Region{region(5, x, "a")}), 3, api.Trace{Kind: api.DidInsn, At: 5, Steps: 1})
}

// busy is instructions of all kinds, which change registers, a flag and memory, write twice and exit.
func busy() []byte {
	return slices.Concat(write(7, hello, 5), long(), liy(1, -3), li(5, 99), big(6, 2001), st(5, 6), big(6, 2000), ld(7, 6), write(8, 2000, 3), exit(9))
}

// busyMemory is what they run in.
func busyMemory() []api.Region { return with(busy(), region(2000, w|r, "abcdefghij")) }

// busyTrace is their trace, and busySteps how many steps they do.
func busyTrace() api.Trace {
	return api.Trace{Events: []api.Event{event(7, "hello"), event(8, "acc")}, Kind: api.EndExit, Code: 9, Steps: busySteps}
}

const busySteps = 2*writeSteps + 7 + 3

// said is all that a machine answers in a run with a stop after each step, as values.
func said(m *step.Machine) []any {
	var out []any
	for range busySteps + 2 {
		out = append(out, m.Cpu(), m.Regions(), m.Run(1), m.Run(0))
	}
	return append(out, m.Cpu(), m.Regions())
}

// TestBusy holds that they do what is said of them.
func TestBusy(t *testing.T) {
	m := made(toy(), state(start), busyMemory())
	runs(t, "busy", m, 100, busyTrace())
	c, l := m.Cpu(), m.Regions()
	if c.Files[0][7] != 0x6867666564636361 || c.Files[1][1] != top-2 || !c.Flags[0] || c.Pc != start+uint64(len(busy())) {
		t.Error(c)
	}
	if !sameRegions(l, with(busy(), region(2000, w|r, "accdefghij"))) {
		t.Error(l)
	}
}

// TestHandedIn: what New is handed isn't changed, spare room included, and not kept.
func TestHandedIn(t *testing.T) {
	before := said(made(toy(), state(start), busyMemory()))
	f := roomy(faulty{toy(), state(start), busyMemory()}.shown())
	m, e := step.New(f.D, f.C, f.L)
	if e != api.OK {
		t.Fatal(e)
	}
	spoil(&f)
	if !reflect.DeepEqual(said(m), before) {
		t.Error("spoilt")
	}
	f = roomy(faulty{toy(), state(start), busyMemory()}.shown())
	m, e = step.New(f.D, f.C, f.L)
	if e != api.OK {
		t.Fatal(e)
	}
	clear(f.D.Regs)
	clear(f.D.Nums)
	clear(f.D.Forms)
	clear(f.D.Files)
	clear(f.C.Files)
	clear(f.L)
	if !reflect.DeepEqual(said(m), before) {
		t.Error("emptied")
	}
}

// shown is all that New is handed, in fields that are known outside.
type shown struct {
	D api.Desc
	C api.Cpu
	L []api.Region
}

func (f faulty) shown() shown { return shown{f.d, f.c, f.l} }

// TestHandedInStays: neither New, also when it fails, nor a run writes into what New was handed.
func TestHandedInStays(t *testing.T) {
	for n := -1; n < len(faults); n++ {
		f := faulty{toy(), state(start), busyMemory()}
		if n >= 0 {
			faults[n].put(&f)
		}
		given := roomy(f.shown())
		before := roomy(given)
		if m, e := step.New(given.D, given.C, given.L); e == api.OK {
			said(m)
		}
		if !sameRoom(given, before) {
			t.Errorf("fault %d: changed: %+v\nfrom %+v", n, given, before)
		}
	}
}

// TestAnswersNew: what Cpu, Regions and Run answer is new memory.
func TestAnswersNew(t *testing.T) {
	want := said(made(toy(), state(start), busyMemory()))
	m := made(toy(), state(start), busyMemory())
	var got []any
	for range busySteps + 2 {
		for range 2 {
			c, l, x := m.Cpu(), m.Regions(), m.Run(0)
			spoil(&c)
			spoil(&l)
			spoil(&x)
		}
		got = append(got, m.Cpu(), m.Regions(), m.Run(1), m.Run(0))
	}
	if !reflect.DeepEqual(append(got, m.Cpu(), m.Regions()), want) {
		t.Error("an answer shares memory with the machine")
	}
	// Nor does a later step change an answer.
	m = made(toy(), state(start), busyMemory())
	m.Run(busySteps - writeSteps)
	c, l, x := m.Cpu(), m.Regions(), m.Run(0)
	cBefore, lBefore, xBefore := roomy(c), roomy(l), roomy(x)
	m.Run(100)
	if !same(c, cBefore) || !sameRegions(l, lBefore) || !sameTraces(x, xBefore) {
		t.Error("changed by later steps")
	}
}

// TestListsApart: no two lists of one answer share memory.
func TestListsApart(t *testing.T) {
	m := made(toy(), state(start), busyMemory())
	m.Run(100)
	for n := range 3 {
		c := m.Cpu()
		before := roomy(c)
		spoil(&c.Files[n])
		for k := range 3 {
			if k != n && !slices.Equal(c.Files[k], before.Files[k]) {
				t.Error("files", n, k)
			}
		}
	}
	for n := range 2 {
		x := m.Run(0)
		spoil(&x.Events[n].Bytes)
		if k := 1 - n; string(x.Events[k].Bytes) != string(busyTrace().Events[k].Bytes) {
			t.Error("events", n, k)
		}
	}
}

// TestMachinesApart: what one machine does is nothing to another that was made of the same.
func TestMachinesApart(t *testing.T) {
	d, c, l := toy(), state(start), busyMemory()
	one, two := made(d, c, l), made(d, c, l)
	want := said(one)
	if !reflect.DeepEqual(said(two), want) || !reflect.DeepEqual(said(made(d, c, l)), want) {
		t.Error("another run")
	}
}
