package step_test

import (
	"math"
	"slices"
	"strconv"
	"strings"
	"testing"

	"dovetail/api"
)

// P9.2

// TestExample: that of the chapter.
func TestExample(t *testing.T) {
	d := read(rvText)
	c := api.Cpu{Pc: 65536, Files: [][]uint64{make([]uint64, 32)}}
	c.Files[0][17], c.Files[0][10] = 93, 7
	m := made(d, c, []api.Region{region(65536, x, "\x73\x00\x00\x00")})
	runs(t, "ecall", m, 5, api.Trace{Kind: api.EndExit, Code: 7, Steps: 1})
}

// TestFuel: as many steps as there is fuel for, none if it is below 0.
func TestFuel(t *testing.T) {
	for _, fuel := range []int{0, -1, -2, -1 << 32, math.MinInt + 1, math.MinInt} {
		m := on(jmp(-2))
		runs(t, "no fuel", m, fuel, api.Trace{Kind: api.EndFuel})
		runs(t, "no fuel", on(nil), fuel, api.Trace{Kind: api.EndFuel})
		if !same(m.Cpu(), state(start)) {
			t.Error(fuel, m.Cpu())
		}
		runs(t, "fuel behind none", m, 3, api.Trace{Kind: api.EndFuel, Steps: 3})
		runs(t, "none behind fuel", m, fuel, api.Trace{Kind: api.EndFuel, Steps: 3})
	}
	for _, fuel := range []int{1, 2, 3, 4, 100, 10000} {
		m := on(slices.Concat(inc(5), jmp(-3)))
		runs(t, "a loop", m, fuel, api.Trace{Kind: api.EndFuel, Steps: fuel})
		has(t, "a loop", m, 5, uint64(fuel+1)/2)
		if want := start + uint64(fuel%2); m.Cpu().Pc != want {
			t.Error(m.Cpu().Pc, want)
		}
	}
}

// TestFuelAtEnd: a machine that would end with its next step goes on as long as there is no fuel for that; much fuel is not used up.
func TestFuelAtEnd(t *testing.T) {
	for _, c := range []struct {
		code []byte
		want api.Trace
	}{
		{exit(1)[4:], api.Trace{Kind: api.EndFuel, Steps: 1}},
		{trap(), api.Trace{Kind: api.DidTrap, Code: 4, Steps: 1}},
		{ld(0, 0), api.Trace{Kind: api.DidLoad, Steps: 1}},
		{st(0, 0), api.Trace{Kind: api.DidStore, Steps: 1}},
		{[]byte{0xFF}, api.Trace{Kind: api.DidInsn, At: start, Steps: 1}},
		{nil, api.Trace{Kind: api.DidFetch, At: start, Steps: 1}},
	} {
		m := on(c.code)
		runs(t, "ahead of it", m, 0, api.Trace{Kind: api.EndFuel})
		runs(t, "at it", m, 1, c.want)
		if c.want.Kind != api.EndFuel {
			runs(t, "much fuel", on(c.code), math.MaxInt, c.want)
		}
	}
}

// TestEnded: a machine that has ended does nothing more.
func TestEnded(t *testing.T) {
	for _, c := range []struct {
		what string
		code []byte
		want api.Trace
	}{
		{"exit", append(exit(3), inc(5)...), api.Trace{Kind: api.EndExit, Code: 3, Steps: 3}},
		{"trap", append(trap(), inc(5)...), api.Trace{Kind: api.DidTrap, Code: 4, Steps: 1}},
		{"load", append(ld(1, 2), inc(5)...), api.Trace{Kind: api.DidLoad, Steps: 1}},
		{"store", append(st(1, 2), inc(5)...), api.Trace{Kind: api.DidStore, Steps: 1}},
		{"insn", append([]byte{0xFE}, inc(5)...), api.Trace{Kind: api.DidInsn, At: start, Steps: 1}},
		{"fetch", jmp(100), api.Trace{Kind: api.DidFetch, At: start + 102, Steps: 2}},
	} {
		m := on(c.code)
		runs(t, c.what, m, 50, c.want)
		cpu, l := m.Cpu(), m.Regions()
		for _, fuel := range []int{1, 0, -1, 7, math.MaxInt} {
			runs(t, c.what+" again", m, fuel, c.want)
			if !same(m.Cpu(), cpu) || !sameRegions(m.Regions(), l) {
				t.Error(c.what, "changed", m.Cpu(), m.Regions())
			}
		}
		has(t, c.what, m, 5, 0)
	}
}

// TestEndState: a step that ends the machine leaves the state as it was, but an exit's, which is a step that is done.
func TestEndState(t *testing.T) {
	for _, code := range [][]byte{trap(), ld(1, 2), st(1, 2), {0xFE}, nil, odd(), gone(), lost()} {
		m := on(slices.Concat(li(1, 5), liy(2, 6), code))
		m.Run(50)
		want := state(start + 4)
		want.Files[0][1], want.Files[1][2] = 5, 6
		if !same(m.Cpu(), want) {
			t.Error(code, m.Cpu(), want)
		}
	}
	m := on(append(exit(5), nop()...))
	m.Run(50)
	want := state(start + 5)
	want.Files[0][arg0], want.Files[0][sysno] = 5, 2
	if !same(m.Cpu(), want) {
		t.Error(m.Cpu(), want)
	}
}

// TestFetch: the bytes at Pc that may be run, 15 at most, in one region or some.
func TestFetch(t *testing.T) {
	fetch := func(at uint64) api.Trace { return api.Trace{Kind: api.DidFetch, At: at, Steps: 1} }
	for _, perm := range []int{0, r, w, r | w} {
		runs(t, "not to be run", made(toy(), state(start), []api.Region{region(start, perm, "\x18")}), 2, fetch(start))
	}
	for _, perm := range []int{x, x | r, x | w, all} {
		runs(t, "to be run", made(toy(), state(start), []api.Region{region(start, perm, "\x18")}), 2, api.Trace{Kind: api.DidTrap, Code: 4, Steps: 1})
	}
	for _, at := range []uint64{0, start - 1, start + 1, 1 << 63, top} {
		m := made(toy(), state(at), []api.Region{region(start, x, "\x18")})
		runs(t, "elsewhere", m, 2, fetch(at))
		if m.Cpu().Pc != at {
			t.Error(m.Cpu().Pc, at)
		}
	}
	// All of fifteen bytes, which may lie in some regions.
	for cut := range 15 {
		l := []api.Region{{At: start, Perm: x, Bytes: long()[:cut]}, {At: start + uint64(cut), Perm: x | r, Bytes: long()[cut:]}}
		m := made(toy(), state(start), l)
		runs(t, "fifteen", m, 1, api.Trace{Kind: api.EndFuel, Steps: 1})
		if c := m.Cpu(); c.Pc != start+15 || !c.Flags[0] {
			t.Error(cut, c)
		}
		l[1].Perm = r
		runs(t, "the rest not to be run", made(toy(), state(start), l), 1, endInParts(cut))
		l[1] = api.Region{At: start + uint64(cut) + 1, Perm: x, Bytes: long()[cut:]}
		runs(t, "a gap", made(toy(), state(start), l), 1, endInParts(cut))
	}
}

// endInParts is how a machine ends at the first bytes of an instruction, so many, behind which none may be run.
func endInParts(cut int) api.Trace {
	if cut == 0 {
		return api.Trace{Kind: api.DidFetch, At: start, Steps: 1}
	}
	return api.Trace{Kind: api.DidInsn, At: start, Steps: 1}
}

// TestBytesEnd: bytes that end before an instruction does begin with none.
func TestBytesEnd(t *testing.T) {
	for _, code := range [][]byte{li(1, 2), jmp(0), big(1, 0), long(), call(3)} {
		for n := 1; n < len(code); n++ {
			m := on(slices.Concat(nop(), code[:n]))
			runs(t, "cut", m, 5, api.Trace{Kind: api.DidInsn, At: start + 1, Steps: 2})
			runs(t, "cut, in its region", made(toy(), state(start), []api.Region{{At: start, Perm: x, Bytes: code[:n]}}), 5, api.Trace{Kind: api.DidInsn, At: start, Steps: 1})
		}
		runs(t, "whole", on(slices.Concat(nop(), code)), 2, on(slices.Concat(nop(), code, nop())).Run(2))
	}
}

// TestNoInsn: bytes that no form has, and a value that its class excepts.
func TestNoInsn(t *testing.T) {
	for _, code := range [][]byte{{1}, {7}, {0x11}, {0x19}, {0x27}, {0x2C}, {0x38}, {0xC7}, {0xC8}, {0xFF}} {
		runs(t, "none", on(slices.Concat(nop(), nop(), code, trap())), 5, api.Trace{Kind: api.DidInsn, At: start + 2, Steps: 3})
	}
	runs(t, "inc", on(slices.Concat(inc(6), trap())), 5, api.Trace{Kind: api.DidTrap, Code: 4, Steps: 2})
}

// TestPc: it goes on behind each instruction, and where one jumps; behind the last address comes 0.
func TestPc(t *testing.T) {
	m := on(slices.Concat(nop(), li(1, 2), long(), big(1, 9), jmp(1), trap(), inc(5), jmp(-5), nop()))
	for _, want := range []uint64{start + 1, start + 3, start + 18, start + 27, start + 30, start + 31, start + 28} {
		m.Run(1)
		if m.Cpu().Pc != want {
			t.Error(m.Cpu().Pc, want)
		}
	}
	has(t, "jumped", m, 5, 1)
	for _, c := range []struct {
		at   uint64
		code []byte
		want uint64
	}{{top, nop(), 0}, {top - 1, li(1, 2), 0}, {top - 1, jmp(5), 5}, {top - 14, long(), 0}, {0, jmp(-3), top}, {1 << 63, jmp(-3), 1<<63 - 1}} {
		m := made(toy(), state(c.at), []api.Region{{At: c.at, Perm: x, Bytes: c.code}})
		m.Run(1)
		if m.Cpu().Pc != c.want {
			t.Error(c.at, m.Cpu().Pc, c.want)
		}
	}
	// Bytes at 0 aren't behind the last address.
	l := []api.Region{{At: top, Perm: x, Bytes: li(5, 5)[:1]}, {At: 0, Perm: x, Bytes: li(5, 5)[1:]}}
	runs(t, "over the end", made(toy(), state(top), l), 5, api.Trace{Kind: api.DidInsn, At: top, Steps: 1})
	l = []api.Region{{At: top, Perm: x, Bytes: nop()}, {At: 0, Perm: x, Bytes: trap()}}
	runs(t, "on at 0", made(toy(), state(top), l), 5, api.Trace{Kind: api.DidTrap, Code: 4, Steps: 2})
}

func TestTraps(t *testing.T) {
	for n := 1; n <= 15; n++ {
		d := read(strings.Replace(parts, "(trap 4)", "(trap "+strconv.Itoa(n)+")", 1) + calls)
		runs(t, "trap", made(d, state(start), with(slices.Concat(nop(), trap()))), 5, api.Trace{Kind: api.DidTrap, Code: n, Steps: 2})
	}
}

// TestLoadsAndStores: what isn't there ends the machine, with the address.
func TestLoadsAndStores(t *testing.T) {
	for _, at := range []uint64{0, 1, start, hello - 1, hello, 1999, 2001, 2008, 1 << 63, top - 7, top - 6, top} {
		m := on(slices.Concat(big(6, at), ld(7, 6)), region(2000, r, "abcdefgh"))
		runs(t, "load", m, 5, api.Trace{Kind: api.DidLoad, At: at, Steps: 2})
		has(t, "load", m, 7, 0)
	}
	for _, at := range []uint64{0, 1, start, hello, 1999, 2008, 1 << 63, top} {
		m := on(slices.Concat(big(6, at), st(7, 6)), region(2000, w|r, "abcdefgh"))
		runs(t, "store", m, 5, api.Trace{Kind: api.DidStore, At: at, Steps: 2})
		if !sameRegions(m.Regions(), with(slices.Concat(big(6, at), st(7, 6)), region(2000, w|r, "abcdefgh"))) {
			t.Error(at, m.Regions())
		}
	}
	m := on(slices.Concat(big(6, 2000), li(7, 65), st(7, 6), ld(5, 6), trap()), region(2000, w|r, "abcdefgh"))
	runs(t, "there", m, 5, api.Trace{Kind: api.DidTrap, Code: 4, Steps: 5})
	has(t, "there", m, 5, 0x6867666564636241)
}

// TestCodeChanges: what is stored into bytes that may be run is run.
func TestCodeChanges(t *testing.T) {
	code := slices.Concat(li(6, start+6), li(7, 0x18), st(7, 6), nop(), nop())
	runs(t, "stays", made(toy(), state(start), []api.Region{{At: start, Perm: x, Bytes: code}}), 9, api.Trace{Kind: api.DidStore, At: start + 6, Steps: 3})
	m := made(toy(), state(start), []api.Region{{At: start, Perm: x | w, Bytes: code}})
	runs(t, "changes", m, 9, api.Trace{Kind: api.DidTrap, Code: 4, Steps: 5})
	// Bytes that were run already, too: the second time round a trap stands where the nop was.
	code = slices.Concat(nop(), li(6, start), li(7, 0x18), st(7, 6), jmp(-8))
	m = made(toy(), state(start), []api.Region{{At: start, Perm: x | w, Bytes: code}})
	runs(t, "changes again", m, 9, api.Trace{Kind: api.DidTrap, Code: 4, Steps: 6})
}

// P9.4

// TestRunInParts: Run(a) and then Run(b) is Run(a + b).
func TestRunInParts(t *testing.T) {
	for a := range busySteps + 3 {
		for b := range busySteps + 3 {
			parted, at := made(toy(), state(start), busyMemory()), made(toy(), state(start), busyMemory())
			first := parted.Run(a)
			runs(t, "the first part", made(toy(), state(start), busyMemory()), a, first)
			runs(t, "both", parted, b, at.Run(a+b))
			if !same(parted.Cpu(), at.Cpu()) || !sameRegions(parted.Regions(), at.Regions()) {
				t.Error(a, b, parted.Cpu(), at.Cpu())
			}
		}
	}
}

// TestRunStepByStep: each trace is that of a run with so much fuel at once.
func TestRunStepByStep(t *testing.T) {
	m := made(toy(), state(start), busyMemory())
	for fuel := range busySteps + 5 {
		want := made(toy(), state(start), busyMemory()).Run(fuel)
		runs(t, "step by step", m, 0, want)
		if want.Steps != min(fuel, busySteps) {
			t.Error(fuel, want.Steps)
		}
		m.Run(1)
	}
	runs(t, "all", m, 0, busyTrace())
}
