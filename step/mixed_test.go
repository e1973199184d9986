package step_test

import (
	"math/rand"
	"slices"
	"testing"

	"dovetail/api"
	"dovetail/codec"
	"dovetail/mem"
	"dovetail/step"
	"dovetail/term"
)

// A slower reading of the chapter: all bytes are looked for one by one in the regions, and the trace of a run is that of all steps from the beginning on.

// slow is a machine whose steps are done by the layers below.
type slow struct {
	d     api.Desc
	codec *codec.Codec
	term  *term.Interp
	mem   *mem.Memory
	cpu   api.Cpu
	trace api.Trace
}

func slowly(d api.Desc, c api.Cpu, l []api.Region) *slow {
	s := &slow{d: d, cpu: c, trace: api.Trace{Kind: api.EndFuel}}
	var e [3]api.Errno
	s.codec, e[0] = codec.New(d)
	s.term, e[1] = term.New(d)
	s.mem, e[2] = mem.New(l)
	if e != [3]api.Errno{} {
		panic(e)
	}
	return s
}

// bytesFrom are those of memory from an address on, at most so many, up to the first one that is above all addresses or in no region with a permission.
func (s *slow) bytesFrom(at uint64, n uint64, perm int) []byte {
	var out []byte
	for a := at; uint64(len(out)) < n && a >= at; a++ {
		found := false
		for _, r := range s.mem.Regions() {
			if a >= r.At && a-r.At < uint64(len(r.Bytes)) && r.Perm&perm != 0 {
				out, found = append(out, r.Bytes[a-r.At]), true
			}
		}
		if !found {
			break
		}
	}
	return out
}

func (s *slow) run(fuel int) api.Trace {
	for n := 0; n < fuel && s.trace.Kind == api.EndFuel; n++ {
		s.trace.Steps++
		s.step()
	}
	return s.trace
}

func (s *slow) ends(kind, code int, at uint64) {
	s.trace = api.Trace{Events: s.trace.Events, Kind: kind, Code: code, At: at, Steps: s.trace.Steps}
}

func (s *slow) step() {
	b := s.bytesFrom(s.cpu.Pc, 15, api.PermX)
	if len(b) == 0 {
		s.ends(api.DidFetch, 0, s.cpu.Pc)
		return
	}
	in, size, e := s.codec.Decode(b)
	if e != api.OK {
		s.ends(api.DidInsn, 0, s.cpu.Pc)
		return
	}
	c, did, e := s.term.Do(in, size, s.cpu, s.mem)
	if e != api.OK {
		panic(e)
	}
	s.cpu = c
	if did.Kind == api.DidSys {
		s.system()
	} else if did.Kind != api.DidNext {
		s.ends(did.Kind, did.Trap, did.At)
	}
}

// place is where the first register with a task lies, and its number counted from 0; nil if it is its file's Zero.
func (s *slow) place(name string) *uint64 {
	for _, a := range s.d.Regs {
		if a.Name == name && s.d.Files[a.File].Zero == a.Num {
			return nil
		} else if a.Name == name {
			return &s.cpu.Files[a.File][a.Num]
		}
	}
	panic(name)
}

func (s *slow) value(name string) uint64 {
	if p := s.place(name); p != nil {
		return *p
	}
	return 0
}

func (s *slow) num(name string) uint64 {
	for _, n := range s.d.Nums {
		if n.Name == name {
			return uint64(n.Num)
		}
	}
	panic(name)
}

func (s *slow) system() {
	if s.value("sysno") == s.num("exit") {
		s.ends(api.EndExit, int(s.value("arg0")%256), 0)
		return
	}
	answer := uint64(noCall)
	if s.value("sysno") == s.num("write") {
		answer = s.write(s.value("arg1"), s.value("arg2"))
	}
	if p := s.place("ret"); p != nil {
		*p = answer
	}
}

func (s *slow) write(at, n uint64) uint64 {
	room := uint64(api.MaxOut)
	for _, e := range s.trace.Events {
		room -= uint64(len(e.Bytes))
	}
	if n > room {
		return noRoom
	}
	b := s.bytesFrom(at, n, api.PermR)
	if uint64(len(b)) < n {
		return noBytes
	}
	s.trace.Events = append(slices.Clone(s.trace.Events), api.Event{Fd: s.value("arg0"), Bytes: b})
	return n
}

// chance chooses what random machines are made of.
type chance struct{ *rand.Rand }

func (c chance) of(l ...uint64) uint64 { return l[c.Intn(len(l))] }

// address is one at which, or near which, something lies.
func (c chance) address() uint64 {
	return c.of(start, 100, 100, 108, 110, 117, 0, 0, top-3, top-5, top, 1<<63) + uint64(c.Intn(5)-1)
}

// desc is toy's description, whose registers with a task are any, and whose system calls have any small numbers.
func (c chance) desc() api.Desc {
	d := toy()
	if c.Intn(3) > 0 {
		return d
	}
	for n := range d.Regs {
		if c.Intn(3) == 0 {
			d.Regs[n].File = c.Intn(2)
			d.Regs[n].Num = c.Intn(d.Files[d.Regs[n].File].Count)
		}
	}
	for n := range d.Nums {
		d.Nums[n].Num = c.Intn(5) - 2
	}
	d.Regs = append(d.Regs, api.Alias{Name: "ret"}, api.Alias{Name: "arg0", File: 2})
	d.Nums = append(d.Nums, api.Named{Name: "exit", Num: 5})
	return d
}

// cpu is a state at start, mostly.
func (c chance) cpu() api.Cpu {
	s := state(start)
	for n := range s.Files[0] {
		s.Files[0][n] = c.of(0, 1, 2, 3, 5, c.address(), c.address(), c.Uint64())
	}
	for n := range s.Files[1] {
		s.Files[1][n] = c.of(0, 1, 2, 3, c.address(), c.Uint64())
	}
	if c.Intn(20) == 0 {
		s.Pc = c.address()
	}
	return s
}

// insn is the bytes of an instruction.
func (c chance) insn() []byte {
	d, small := c.Intn(8), int8(c.Intn(8)-2)
	switch c.Intn(14) {
	case 0, 1:
		return li(d, small)
	case 2:
		return big(d, c.address())
	case 3:
		return write(small, c.address(), uint64(c.Intn(14)))
	case 4:
		return slices.Concat(li(arg2, small), call(1))
	case 5:
		return slices.Concat(li(arg1, int8(c.Intn(30)+95)), li(arg2, int8(c.Intn(12))), call(1))
	case 6:
		return call(small)
	case 7:
		return ld(d, c.Intn(8))
	case 8:
		return st(d, c.Intn(8))
	case 9:
		return slices.Concat(big(d, c.address()), [][]byte{ld(c.Intn(8), d), st(c.Intn(8), d)}[c.Intn(2)])
	case 10:
		return [][]byte{jmp(int8(c.Intn(20) - 8)), goes(int8(c.Intn(6))), odd(), gone(), lost(), trap(), sys(), {byte(c.Intn(256))}}[c.Intn(8)]
	case 11:
		return liy(c.Intn(4), small)
	case 12:
		return long()
	}
	return inc(c.Intn(8))
}

// regions are code, some data one behind the other, and something at both ends of all addresses.
func (c chance) regions() []api.Region {
	var code []byte
	for range 1 + c.Intn(12) {
		if i := c.insn(); len(code)+len(i) <= 80 {
			code = append(code, i...)
		}
	}
	often := func(perm int) int {
		if c.Intn(4) == 0 {
			return c.Intn(8)
		}
		return perm
	}
	l := []api.Region{
		{At: start, Perm: x | int(c.of(0, 0, w, r, w|r)), Bytes: code},
		region(100, often(r|w), "abcdefgh"), region(108, often(r), "ij"), region(110, often(r|w), "klmnopq"),
		region(0, often(r|w), "\x00\x08\x05\x22\x01"), region(top-3, often(r|w|x), "\x00\x0A\x05\x22"),
		region(105, 7, ""),
	}
	c.Shuffle(len(l), func(n, k int) { l[n], l[k] = l[k], l[n] })
	return l
}

// TestMixed holds random machines against the slower reading, run in parts and at once.
func TestMixed(t *testing.T) {
	c := chance{rand.New(rand.NewSource(9))}
	kinds := map[int]int{}
	events, answers := 0, map[uint64]int{}
	for range 6000 {
		d, cpu, l := c.desc(), c.cpu(), c.regions()
		s, parted, at := slowly(d, roomy(cpu), l), made(d, cpu, l), made(d, cpu, l)
		fuel := 0
		for range 1 + c.Intn(4) {
			part := c.Intn(25)
			fuel += part
			want := s.run(part)
			if got := parted.Run(part); !sameTraces(got, want) || !like(parted, s) {
				t.Fatalf("%v %v %v: %v %v, not %v %v", d.Regs, cpu, l, got, parted.Cpu(), want, s.cpu)
			}
		}
		if got := at.Run(fuel); !sameTraces(got, s.trace) || !like(at, s) {
			t.Fatalf("%v %v %v: %v %v at once, not %v %v", d.Regs, cpu, l, got, at.Cpu(), s.trace, s.cpu)
		}
		kinds[s.trace.Kind]++
		events += len(s.trace.Events)
		for _, v := range slices.Concat(s.cpu.Files...) {
			answers[v]++
		}
	}
	for _, kind := range []int{api.EndFuel, api.EndExit, api.DidTrap, api.DidLoad, api.DidStore, api.DidFetch, api.DidInsn} {
		if kinds[kind] < 100 {
			t.Error("too few of a kind", kind, kinds)
		}
	}
	if events < 1000 || answers[noCall] < 100 || answers[noBytes] < 100 || answers[noRoom] < 100 {
		t.Error("too few calls", events, answers[noCall], answers[noBytes], answers[noRoom])
	}
}

// like says whether a machine's state and memory are those of the slower one.
func like(m *step.Machine, s *slow) bool {
	return same(m.Cpu(), s.cpu) && sameRegions(m.Regions(), s.mem.Regions())
}

// TestAnyFuel: no call panics at any fuel, of machines of any bytes.
func TestAnyFuel(t *testing.T) {
	c := chance{rand.New(rand.NewSource(99))}
	for range 3000 {
		code := make([]byte, c.Intn(60))
		c.Read(code)
		cpu, l := c.cpu(), []api.Region{{At: start, Perm: all, Bytes: code}, region(100, r|w, "abcdefgh")}
		m, again := made(toy(), cpu, l), made(toy(), cpu, l)
		for _, fuel := range []int{c.Intn(5), -c.Int(), c.Intn(300)} {
			if a, b := m.Run(fuel), again.Run(fuel); !sameTraces(a, b) || !same(m.Cpu(), again.Cpu()) {
				t.Fatal(fuel, a, b)
			}
		}
	}
}
