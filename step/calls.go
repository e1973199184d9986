package step

import (
	"cmp"
	"slices"

	"dovetail/api"
)

// What a system call that can't be done makes of ret: there is no such call, some bytes can't be read, there is no room for them.
const (
	noCall  = 1<<64 - 38
	noBytes = 1<<64 - 14
	noRoom  = 1<<64 - 28
)

const (
	// codes is how many codes an exit may have.
	codes = 256
	// maxLoad is how many bytes memory loads at once.
	maxLoad = 8
)

// span is a part of memory that may be read: where it begins, and how many bytes it has.
type span struct {
	at, size uint64
}

// readable are those of a memory's regions that may be read, by rising address: memory tells of a few bytes at a time, and a program may ask for many again and again.
func readable(l []api.Region) []span {
	var out []span
	for _, r := range l {
		if r.Perm&api.PermR != 0 {
			out = append(out, span{r.At, uint64(len(r.Bytes))})
		}
	}
	slices.SortFunc(out, func(a, b span) int { return cmp.Compare(a.at, b.at) })
	return out
}

// call does the system call whose number is in sysno.
func (m *Machine) call() {
	switch m.get(sysno) {
	case m.abi.exit:
		m.end(api.EndExit, int(m.get(arg0)%codes), 0)
	case m.abi.write:
		m.set(ret, m.write())
	default:
		m.set(ret, noCall)
	}
}

// write writes bytes of memory, and says what that makes of ret.
func (m *Machine) write() uint64 {
	at, n := m.get(arg1), m.get(arg2)
	if n > m.room {
		return noRoom
	}
	if !m.mayRead(at, n) {
		return noBytes
	}
	m.trace.Events = append(m.trace.Events, api.Event{Fd: m.get(arg0), Bytes: m.read(at, n)})
	m.room -= n
	return n
}

// mayRead says whether all of n bytes from at on may be read.
func (m *Machine) mayRead(at, n uint64) bool {
	// Behind the last address at becomes 0, but no span that is still to come lies there.
	for _, s := range m.spans {
		if at-s.at < s.size {
			here := min(n, s.size-(at-s.at))
			at += here
			n -= here
		}
	}
	return n == 0
}

// read is n bytes from at on, all of which may be read.
func (m *Machine) read(at, n uint64) []byte {
	out := make([]byte, 0, n)
	for k := uint64(0); k < n; k += maxLoad {
		size := min(maxLoad, n-k)
		v, _ := m.memory.Load(at+k, int(size))
		for range size {
			out = append(out, byte(v))
			v >>= 8
		}
	}
	return out
}
