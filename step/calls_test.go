package step_test

import (
	"bytes"
	"math"
	"slices"
	"strconv"
	"strings"
	"testing"

	"dovetail/api"
	"dovetail/step"
)

// P9.3

func TestExit(t *testing.T) {
	for _, v := range []uint64{0, 1, 7, 127, 128, 255, 256, 257, 511, 512, 1000, 1 << 32, 1<<32 + 3, 1 << 63, 1<<63 + 200, top - 255, top - 1, top} {
		code := slices.Concat(big(arg0, v), li(sysno, 2), sys())
		m := on(code)
		runs(t, "exit", m, 9, api.Trace{Kind: api.EndExit, Code: int(v % 256), Steps: 3})
		want := state(start + uint64(len(code)))
		want.Files[0][arg0], want.Files[0][sysno] = v, 2
		if !same(m.Cpu(), want) {
			t.Error(m.Cpu(), want)
		}
	}
}

// onBytes is toy's machine that has written bytes of memory from an address on, in other regions than the code.
func onBytes(t *testing.T, at, n uint64, others ...api.Region) (*step.Machine, api.Trace) {
	t.Helper()
	m := made(toy(), state(1<<62), append([]api.Region{{At: 1 << 62, Perm: x, Bytes: write(7, at, n)}}, others...))
	got := m.Run(writeSteps)
	if got.Kind != api.EndFuel || got.Code != 0 || got.At != 0 || got.Steps != writeSteps || m.Cpu().Pc != 1<<62+uint64(len(write(7, at, n))) {
		t.Error(at, n, got, m.Cpu())
	}
	return m, got
}

// writes holds that bytes are written.
func writes(t *testing.T, at uint64, want string, others ...api.Region) {
	t.Helper()
	m, got := onBytes(t, at, uint64(len(want)), others...)
	if len(got.Events) != 1 || got.Events[0].Fd != 7 || string(got.Events[0].Bytes) != want {
		t.Errorf("at %#x: %v, not %q", at, got.Events, want)
	}
	has(t, "ret", m, ret, uint64(len(want)))
}

// fails holds that nothing is written, and what becomes of ret.
func fails(t *testing.T, at, n, want uint64, others ...api.Region) {
	t.Helper()
	m, got := onBytes(t, at, n, others...)
	if len(got.Events) != 0 {
		t.Errorf("%d at %#x: %v", n, at, got.Events)
	}
	has(t, "ret", m, ret, want)
}

func TestWrite(t *testing.T) {
	text := "The quick brown fox jumps over the lazy dog."
	for n := range len(text) + 1 {
		for from := range len(text) - n + 1 {
			writes(t, 100+uint64(from), text[from:from+n], region(100, r, text))
		}
		fails(t, 100+uint64(len(text)-n), uint64(n)+1, noBytes, region(100, r, text))
		fails(t, 99, uint64(n)+1, noBytes, region(100, r, text))
	}
	for perm := range 8 {
		if perm&r != 0 {
			writes(t, 101, "bc", region(100, perm, "abcd"))
		} else {
			fails(t, 101, 2, noBytes, region(100, perm, "abcd"))
			fails(t, 101, 1, noBytes, region(100, perm, "abcd"))
		}
	}
	fails(t, 100, 1, noBytes)
	// The code can't be read.
	fails(t, 1<<62, 1, noBytes)
}

// TestWriteNothing: no bytes all lie where they may be read; the Event comes all the same.
func TestWriteNothing(t *testing.T) {
	for _, at := range []uint64{0, 99, 100, 103, 104, 1 << 62, 1 << 63, top - 1, top} {
		writes(t, at, "")
		writes(t, at, "", region(100, r, "abcd"), region(0, w, "a"), region(top, r, "a"))
	}
}

// TestWriteRegions: bytes may lie in some regions, one behind the other, whatever their order in the list.
func TestWriteRegions(t *testing.T) {
	l := []api.Region{region(300, r, "cdefghijk"), region(298, r|w, "ab"), region(310, all, "m"), region(309, r|x, "l"), region(305, r, ""), region(312, r, "z"), region(296, w, "yy"), region(311, 0, "")}
	for range 2 {
		for from := range 13 {
			for to := from; to <= 13; to++ {
				writes(t, 298+uint64(from), "abcdefghijklm"[from:to], l...)
			}
			fails(t, 298+uint64(from), uint64(14-from), noBytes, l...)
			fails(t, 298+uint64(from), uint64(15-from), noBytes, l...)
			fails(t, 297, uint64(from+1), noBytes, l...)
			fails(t, 295, uint64(from+3), noBytes, l...)
		}
		slices.Reverse(l)
	}
	// One that may not be read lies between two that may.
	l = []api.Region{region(298, r, "ab"), region(300, w|x, "cd"), region(302, r, "ef")}
	writes(t, 298, "ab", l...)
	writes(t, 302, "ef", l...)
	for n := range uint64(4) {
		fails(t, 298, 3+n, noBytes, l...)
		fails(t, 301-n, 3+n, noBytes, l...)
	}
}

// TestWriteAtTheEnd: no address is above 2^64 - 1, and what lies at 0 isn't behind it.
func TestWriteAtTheEnd(t *testing.T) {
	l := []api.Region{region(0, r, "abcdefghijklmnopqrstuvwxyz"), region(top-19, r, "ABCDEFGHIJKLMNOPQRST")}
	for n := range uint64(21) {
		writes(t, top-n+1, "ABCDEFGHIJKLMNOPQRST"[20-n:], l...)
		for more := range uint64(25) {
			if n > 0 {
				fails(t, top-n+1, n+more+1, noBytes, l...)
			}
		}
	}
	writes(t, 0, "abcdefghijklmnopqrstuvwxyz", l...)
}

// TestWriteTooMuch: numbers of bytes for which there can't be room, wherever they would lie.
func TestWriteTooMuch(t *testing.T) {
	for _, n := range []uint64{api.MaxOut + 1, api.MaxOut + 2, 1 << 32, 1<<32 + 1, 1 << 63, 1<<63 + 1, top - 37, top - 13, top - 1, top} {
		for _, at := range []uint64{0, 100, 1 << 63, top} {
			fails(t, at, n, noRoom, region(100, r, "abcd"))
		}
	}
	for _, n := range []uint64{5, 6, 1 << 10, api.MaxOut - 1, api.MaxOut} {
		fails(t, 100, n, noBytes, region(100, r, "abcd"))
	}
}

// much is a region of more bytes than there is room for.
func much() api.Region {
	b := make([]byte, api.MaxOut+20)
	for n := range b {
		b[n] = byte(n*7 + n>>8)
	}
	return api.Region{At: 1 << 30, Perm: r, Bytes: b}
}

// asked is a write that a program asks for, and what it makes of ret.
type asked struct {
	fd           int8
	at, n, wants uint64
}

// TestWriteRoom: as many bytes as there is room for, and one more; what isn't written takes no room, and no bytes need none.
func TestWriteRoom(t *testing.T) {
	at, text := uint64(1<<30), string(much().Bytes)
	for _, first := range []uint64{0, 1, 2, 1000, api.MaxOut - 1, api.MaxOut} {
		left := api.MaxOut - first
		nowhere := uint64(noBytes)
		if left == 0 {
			nowhere = 0
		}
		var code []byte
		var events []api.Event
		l := []asked{
			{1, at, first, first},
			{2, at, left + 1, noRoom}, {3, 5, left + 1, noRoom}, {4, at, top, noRoom}, {5, 5, left, nowhere},
			{6, at, left, left},
			{7, at, 1, noRoom}, {8, 5, 1, noRoom}, {9, at, 0, 0}, {10, 5, 0, 0}, {11, at, top, noRoom},
		}
		for _, a := range l {
			code = append(code, write(a.fd, a.at, a.n)...)
			if a.wants == a.n {
				events = append(events, event(uint64(a.fd), text[:a.n]))
			}
		}
		m := on(append(code, exit(1)...), much())
		for n, a := range l {
			m.Run(writeSteps)
			has(t, "room "+strconv.Itoa(n), m, ret, a.wants)
		}
		runs(t, "room", m, 3, api.Trace{Events: events, Kind: api.EndExit, Code: 1, Steps: writeSteps*len(l) + 3})
	}
}

// TestWriteMany: the bytes of all Events count.
func TestWriteMany(t *testing.T) {
	size := uint64(api.MaxOut/4 + 1)
	at := uint64(1 << 30)
	m := on(slices.Concat(li(sysno, 1), big(arg1, at), big(arg2, size), sys(), sys(), sys(), sys(), big(arg2, size-4), sys(), sys()), much())
	m.Run(3)
	text := string(much().Bytes)
	want := api.Trace{Kind: api.EndFuel, Steps: 3}
	for n := range 3 {
		want.Steps++
		want.Events = append(want.Events, event(0, text[:size]))
		runs(t, "many", m, 1, want)
		has(t, "many", m, ret, size)
		if len(want.Events) != n+1 {
			t.Fatal(n)
		}
	}
	want.Steps++
	runs(t, "one more", m, 1, want)
	has(t, "one more", m, ret, noRoom)
	want.Steps += 2
	want.Events = append(want.Events, event(0, text[:size-4]))
	runs(t, "the rest", m, 2, want)
	has(t, "the rest", m, ret, size-4)
	want.Steps++
	runs(t, "no room", m, 1, want)
	has(t, "no room", m, ret, noRoom)
}

// TestWriteAgainAndAgain: a program may ask often for many bytes of which the last isn't there.
func TestWriteAgainAndAgain(t *testing.T) {
	l := []api.Region{{At: 1 << 30, Perm: r, Bytes: make([]byte, api.MaxOut-1)}}
	m := on(slices.Concat(li(sysno, 1), big(arg1, 1<<30), big(arg2, api.MaxOut), sys(), jmp(-3)), l...)
	runs(t, "again and again", m, 100000, api.Trace{Kind: api.EndFuel, Steps: 100000})
	has(t, "again and again", m, ret, noBytes)
}

// TestEvents: what is written stays as it was when it was written, in order.
func TestEvents(t *testing.T) {
	code := slices.Concat(write(1, 2000, 3), li(5, 'x'), big(6, 2001), st(5, 6), write(-1, 2000, 3), write(127, 2002, 0), write(1, hello, 5), trap())
	m := on(code, region(2000, w|r, "abc"))
	want := []api.Event{event(1, "abc"), event(top, "axc"), event(127, ""), event(1, "hello")}
	runs(t, "events", m, 100, api.Trace{Events: want, Kind: api.DidTrap, Code: 4, Steps: 4*writeSteps + 4})
	for _, fd := range []uint64{0, 1, 255, 256, 1 << 32, 1 << 63, top} {
		m := on(slices.Concat(big(arg0, fd), big(arg1, hello), li(arg2, 4), li(sysno, 1), sys()))
		runs(t, "fd", m, 5, api.Trace{Events: []api.Event{event(fd, "hell")}, Kind: api.EndFuel, Steps: 5})
	}
	// All bytes can be written, as they are.
	every := make([]byte, 256)
	for n := range every {
		every[n] = byte(n)
	}
	writes(t, 512, string(every), api.Region{At: 512, Perm: r, Bytes: bytes.Clone(every)})
}

// TestOthers: every other number.
func TestOthers(t *testing.T) {
	for _, n := range []uint64{0, 3, 4, 60, 64, 93, 256 + 1, 256 + 2, 1<<32 + 1, 1<<32 + 2, 1<<63 + 1, 1<<63 + 2, top - 1, top} {
		code := slices.Concat(big(sysno, n), li(arg0, 9), big(arg1, hello), li(arg2, 5), sys(), inc(5))
		m := on(code)
		runs(t, "another", m, 6, api.Trace{Kind: api.EndFuel, Steps: 6})
		want := state(start + uint64(len(code)))
		want.Files[0] = []uint64{n, noCall, 9, hello, 5, 1, 0, 0}
		if !same(m.Cpu(), want) {
			t.Error(n, m.Cpu())
		}
	}
}

// TestNumsBelowZero: they stand for themselves plus 2^64.
func TestNumsBelowZero(t *testing.T) {
	nums := func(write, exit int) api.Desc {
		d := toy()
		d.Nums = []api.Named{{Name: "write", Num: write}, {Name: "exit", Num: exit}, {Name: "write", Num: 77}, {Name: "exit", Num: 78}}
		return d
	}
	for _, c := range []struct{ write, exit int }{{-1, -2}, {-2, -1}, {math.MinInt, math.MaxInt}, {math.MaxInt, math.MinInt}, {0, -1 << 32}, {1 << 62, 0}, {-38, -14}, {64, -64}} {
		for _, n := range []int{c.write, c.exit, -c.write, -c.exit, 1, 2, -1, 77, 78} {
			code := slices.Concat(big(sysno, uint64(n)), li(arg0, 9), big(arg1, hello), li(arg2, 5), sys())
			m := made(nums(c.write, c.exit), state(start), with(code))
			want := api.Trace{Kind: api.EndFuel, Steps: 5}
			answer := uint64(noCall)
			switch n {
			case c.exit:
				want.Kind, want.Code, answer = api.EndExit, 9, 0
			case c.write:
				want.Events, answer = []api.Event{event(9, "hello")}, 5
			}
			runs(t, "nums", m, 5, want)
			has(t, "nums", m, ret, answer)
		}
	}
	// Of two calls of one number the exit is named first.
	m := made(nums(5, 5), state(start), with(slices.Concat(li(sysno, 5), li(arg0, 9), sys())))
	runs(t, "one number", m, 9, api.Trace{Kind: api.EndExit, Code: 9, Steps: 3})
}

// TestBehind: the number and all else is what stands in the registers behind the instruction.
func TestBehind(t *testing.T) {
	m := on(slices.Concat(li(arg0, 9), big(arg1, hello), li(arg2, 5), li(sysno, 2), call(1), li(sysno, 1), call(2)))
	runs(t, "behind", m, 9, api.Trace{Events: []api.Event{event(9, "hello")}, Kind: api.EndExit, Code: 9, Steps: 7})
	has(t, "behind", m, sysno, 2)
	has(t, "behind", m, ret, 5)
	m = on(slices.Concat(li(sysno, 2), call(-1), trap()))
	runs(t, "behind", m, 9, api.Trace{Kind: api.DidTrap, Code: 4, Steps: 3})
	has(t, "behind", m, ret, noCall)
	// It may jump, too.
	code := slices.Concat(li(arg0, 9), big(arg1, hello), li(arg2, 4), li(sysno, 1), goes(1), trap(), li(sysno, 2), goes(50))
	m = on(code)
	runs(t, "jump", m, 99, api.Trace{Events: []api.Event{event(9, "hell")}, Kind: api.EndExit, Code: 9, Steps: 7})
	if want := start + uint64(len(code)) + 50; m.Cpu().Pc != want {
		t.Error(m.Cpu().Pc, want)
	}
	// ret is set behind what the instruction sets.
	d := read(strings.Replace(parts+calls, "reg ret x 1", "reg ret x 0", 1))
	m = made(d, state(start), with(slices.Concat(li(arg0, 9), big(arg1, hello), li(arg2, 3), call(1), nop())))
	runs(t, "ret", m, 5, api.Trace{Events: []api.Event{event(9, "hel")}, Kind: api.EndFuel, Steps: 5})
	has(t, "ret", m, 0, 3)
}

// TestNoCall: an instruction that a trap, a load or a store ends does no system call.
func TestNoCall(t *testing.T) {
	ahead := slices.Concat(li(arg0, 9), big(arg1, hello), li(arg2, 5))
	for _, n := range []int8{0, 1, 2} {
		for _, c := range []struct {
			code []byte
			want api.Trace
		}{
			{odd(), api.Trace{Kind: api.DidTrap, Code: 5, Steps: 5}},
			{gone(), api.Trace{Kind: api.DidLoad, At: 3, Steps: 5}},
			{lost(), api.Trace{Kind: api.DidStore, At: 5, Steps: 5}},
		} {
			m := on(slices.Concat(ahead, li(sysno, n), c.code))
			runs(t, "no call", m, 9, c.want)
			has(t, "no call", m, ret, 0)
		}
	}
	// If the load, the store is there, the call is done.
	m := on(slices.Concat(ahead, li(sysno, 1), gone(), li(sysno, 2), lost()), region(3, r|w, "abcdefgh"))
	runs(t, "call", m, 9, api.Trace{Events: []api.Event{event(9, "hello")}, Kind: api.EndExit, Code: 9, Steps: 7})
	has(t, "call", m, ret, 1)
}

// TestZeroRegisters: a register with a task that is its file's Zero counts as 0, whatever stands in it; a ret that is it stays.
func TestZeroRegisters(t *testing.T) {
	zero := func(name string, junk uint64, write, exit int) (api.Desc, api.Cpu) {
		d := toy()
		*task(d, name) = api.Alias{Name: name, File: 1}
		d.Nums = []api.Named{{Name: "write", Num: write}, {Name: "exit", Num: exit}}
		c := state(start)
		c.Files[0] = []uint64{1, 99, 9, hello, 5, 0, 0, 0}
		c.Files[1][0] = junk
		return d, c
	}
	for _, junk := range []uint64{0, 1, 2, 5, hello, top} {
		held := func(name string, write, exit int, want api.Trace, answer uint64) {
			t.Helper()
			d, c := zero(name, junk, write, exit)
			m := made(d, c, with(slices.Concat(liy(0, 7), sys()), region(0, r, "zero!")))
			runs(t, name, m, 2, want)
			c.Pc += 3
			c.Files[0][1] = answer
			if !same(m.Cpu(), c) {
				t.Error(name, m.Cpu(), c)
			}
		}
		wrote := func(fd uint64, text string) api.Trace {
			return api.Trace{Events: []api.Event{event(fd, text)}, Kind: api.EndFuel, Steps: 2}
		}
		held("sysno", 0, 1, wrote(9, "hello"), 5)
		held("sysno", 1, 0, api.Trace{Kind: api.EndExit, Code: 9, Steps: 2}, 99)
		held("sysno", 1, 2, api.Trace{Kind: api.EndFuel, Steps: 2}, noCall)
		held("arg0", 1, 2, wrote(0, "hello"), 5)
		held("arg0", 2, 1, api.Trace{Kind: api.EndExit, Steps: 2}, 99)
		held("arg1", 1, 2, wrote(9, "zero!"), 5)
		held("arg2", 1, 2, wrote(9, ""), 0)
		held("ret", 1, 2, wrote(9, "hello"), 99)
		held("ret", 2, 3, api.Trace{Kind: api.EndFuel, Steps: 2}, 99)
	}
}

// TestOtherFiles: registers with a task may lie in any files of the Width 64; one that is no Zero has no part in it.
func TestOtherFiles(t *testing.T) {
	d := read(parts + "(num write 0) (num exit 3) (reg sysno y 3) (reg ret y 1) (reg arg0 x 0) (reg arg1 x 7) (reg arg2 y 2)")
	m := made(d, state(start), with(slices.Concat(li(0, 6), big(7, hello), liy(2, 2), liy(1, 50), sys(), liy(3, 3), sys())))
	runs(t, "files", m, 9, api.Trace{Events: []api.Event{event(6, "he")}, Kind: api.EndExit, Code: 6, Steps: 7})
	want := state(m.Cpu().Pc)
	want.Files[0][0], want.Files[0][7], want.Files[1] = 6, hello, []uint64{0, 2, 2, 3}
	if !same(m.Cpu(), want) {
		t.Error(m.Cpu(), want)
	}
}

// TestOneRegister: one register may have all tasks.
func TestOneRegister(t *testing.T) {
	d := read(parts + "(num write 5) (num exit 7) (reg sysno x 2) (reg ret x 2) (reg arg0 x 2) (reg arg1 x 2) (reg arg2 x 2)")
	m := made(d, state(start), with(slices.Concat(li(2, 5), sys(), inc(2), inc(2), sys()), region(5, r, "fives")))
	runs(t, "one", m, 9, api.Trace{Events: []api.Event{event(5, "fives")}, Kind: api.EndExit, Code: 7, Steps: 5})
	has(t, "one", m, 2, 7)
	m = made(d, state(start), with(slices.Concat(li(2, 6), sys())))
	runs(t, "one", m, 2, api.Trace{Kind: api.EndFuel, Steps: 2})
	has(t, "one", m, 2, noCall)
}
