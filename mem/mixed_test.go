package mem_test

import (
	"math"
	"math/big"
	"math/rand"
	"slices"
	"testing"

	"dovetail/api"
	"dovetail/mem"
)

// A slower reading of the chapter: a map from addresses, which are numbers of any size, to cells.

// cell is a byte of memory, with its region's permissions.
type cell struct {
	perm int
	b    byte
}

// slow is a memory: its cells by their addresses in digits, and its regions' places.
type slow struct {
	cells map[string]*cell
	l     []api.Region
}

// key is the address n bytes behind another, which may be beyond all that regions may have.
func key(at uint64, n int) string {
	a := new(big.Int).SetUint64(at)
	return a.Add(a, big.NewInt(int64(n))).String()
}

// slowNew is New of some regions that aren't too large.
func slowNew(l []api.Region) (*slow, api.Errno) {
	if len(l) > 64 {
		return nil, api.ErrMemMany
	}
	highest := new(big.Int).SetUint64(math.MaxUint64)
	for _, r := range l {
		if !slices.Contains([]int{0, 1, 2, 3, 4, 5, 6, 7}, r.Perm) {
			return nil, api.ErrRegion
		}
		for n := range r.Bytes {
			a := new(big.Int).SetUint64(r.At)
			if a.Add(a, big.NewInt(int64(n))).Cmp(highest) > 0 {
				return nil, api.ErrRegion
			}
		}
	}
	s := &slow{map[string]*cell{}, l}
	for _, r := range l {
		for n, b := range r.Bytes {
			k := key(r.At, n)
			if s.cells[k] != nil {
				return nil, api.ErrOverlap
			}
			s.cells[k] = &cell{r.Perm, b}
		}
	}
	return s, api.OK
}

// run is the cells from at on with permissions, one after the other, at most n.
func (s *slow) run(at uint64, n, perm int) []*cell {
	var out []*cell
	for k := 0; k < n; k++ {
		c := s.cells[key(at, k)]
		if c == nil || c.perm&perm != perm {
			break
		}
		out = append(out, c)
	}
	return out
}

func (s *slow) load(at uint64, n int) (uint64, bool) {
	if n < 1 || n > 8 || len(s.run(at, n, 4)) < n {
		return 0, false
	}
	v := uint64(0)
	cells := s.run(at, n, 4)
	for k := n - 1; k >= 0; k-- {
		v = v*256 + uint64(cells[k].b)
	}
	return v, true
}

func (s *slow) store(at uint64, n int, v uint64) bool {
	if n < 1 || n > 8 || len(s.run(at, n, 2)) < n {
		return false
	}
	for _, c := range s.run(at, n, 2) {
		c.b = byte(v % 256)
		v /= 256
	}
	return true
}

func (s *slow) fetch(at uint64, n int) string {
	var out []byte
	for _, c := range s.run(at, min(n, 15), 1) {
		out = append(out, c.b)
	}
	return string(out)
}

func (s *slow) holds(at uint64, n, perm int) bool {
	return n >= 1 && n <= 8 && perm >= 0 && perm <= 7 && len(s.run(at, n, perm)) == n
}

// regions takes the one with the lowest address, again and again.
func (s *slow) regions() []api.Region {
	var out []api.Region
	left := clone(s.l)
	for len(left) > 0 {
		low := 0
		for n := range left {
			if left[n].At < left[low].At {
				low = n
			}
		}
		r := left[low]
		left = slices.Delete(left, low, low+1)
		if len(r.Bytes) == 0 {
			continue
		}
		for n := range r.Bytes {
			r.Bytes[n] = s.cells[key(r.At, n)].b
		}
		out = append(out, r)
	}
	return out
}

// window is where a mixed memory's regions lie, or at least begin.
func window(some *rand.Rand) uint64 {
	return []uint64{0, 1, 1000, 1<<32 - 20, 1<<63 - 20, top - 130, top - 60, top - 30}[some.Intn(8)]
}

// mixed is some regions, mostly right, in any order.
func mixed(some *rand.Rand) []api.Region {
	var l []api.Region
	at := window(some)
	for range some.Intn(9) {
		b := make([]byte, []int{0, 1, 1, 2, 3, 5, 8, 20}[some.Intn(8)])
		some.Read(b)
		r := api.Region{At: at, Perm: []int{7, 7, some.Intn(8)}[some.Intn(3)], Bytes: b}
		switch some.Intn(60) {
		case 0:
			r.Perm = notPerms[some.Intn(len(notPerms))]
		case 1:
			r.At -= uint64(some.Intn(4))
		case 2:
			r.At = top - uint64(some.Intn(9))
		case 3:
			r.At = uint64(some.Intn(9))
		}
		l = append(l, r)
		at += uint64(len(b)) + []uint64{0, 0, 0, 1, 2, 9}[some.Intn(6)]
	}
	some.Shuffle(len(l), func(a, b int) { l[a], l[b] = l[b], l[a] })
	return l
}

// spot is an address in or near one of the regions, or at one of the ends.
func spot(some *rand.Rand, l []api.Region) uint64 {
	if len(l) == 0 || some.Intn(20) == 0 {
		return []uint64{0, 1, 7, 1 << 63, top - 7, top - 1, top}[some.Intn(7)]
	}
	r := l[some.Intn(len(l))]
	return r.At + uint64(some.Intn(len(r.Bytes)+6)) - 3
}

// size is a number of bytes, mostly from 1 to 8.
func size(some *rand.Rand) int {
	if some.Intn(12) == 0 {
		return notSizes[some.Intn(len(notSizes))]
	}
	return 1 + some.Intn(8)
}

// agree holds one call of each kind against the slower reading.
func agree(t *testing.T, some *rand.Rand, m *mem.Memory, s *slow) {
	at, n, v, perm := spot(some, s.l), size(some), some.Uint64(), some.Intn(8)
	if want := s.store(at, n, v); m.Store(at, n, v) != want {
		t.Fatalf("Store %#x %d %#x isn't %v: %v", at, n, v, want, s.regions())
	}
	at, n = spot(some, s.l), size(some)
	want, there := s.load(at, n)
	if v, ok := m.Load(at, n); v != want || ok != there {
		t.Fatalf("Load %#x %d: %#x, %v, not %#x, %v: %v", at, n, v, ok, want, there, s.regions())
	}
	if some.Intn(12) == 0 {
		perm = notPerms[some.Intn(len(notPerms))]
	}
	if want := s.holds(at, n, perm); m.Holds(at, n, perm) != want {
		t.Fatalf("Holds %#x %d %d isn't %v: %v", at, n, perm, want, s.regions())
	}
	if some.Intn(2) == 0 {
		n = 8 + some.Intn(12)
	}
	if b, want := m.Fetch(at, n), s.fetch(at, n); string(b) != want {
		t.Fatalf("Fetch %#x %d: % x, not % x: %v", at, n, b, want, s.regions())
	}
}

func TestMixed(t *testing.T) {
	some := rand.New(rand.NewSource(7))
	met := map[api.Errno]int{}
	for range 6000 {
		l := mixed(some)
		s, want := slowNew(clone(l))
		m, e := mem.New(l)
		met[e]++
		if e != want || (m == nil) != (e != api.OK) {
			t.Fatal(e, want, l)
		}
		if e != api.OK {
			continue
		}
		spoil(l)
		for range 25 {
			agree(t, some, m, s)
		}
		if got := m.Regions(); !same(got, s.regions()) {
			t.Fatal(got, s.regions())
		}
	}
	if met[api.OK] < 3000 || met[api.ErrRegion] < 300 || met[api.ErrOverlap] < 100 {
		t.Error("too few of a kind", met)
	}
}

// P1 and P2

// told is all that a memory of some regions answers to calls with any arguments.
func told(t *testing.T, l []api.Region) []any {
	m, e := mem.New(l)
	if e != api.OK {
		t.Fatal(e, l)
	}
	numbers := append(append([]int{1, 2, 3, 4, 5, 6, 7, 8}, notSizes...), notPerms...)
	var out []any
	for _, at := range []uint64{0, 1, 49, 50, 51, 57, 1<<31 - 1, 1 << 32, 1<<63 - 1, 1 << 63, top - 14, top - 7, top - 1, top} {
		for _, n := range numbers {
			v, ok := m.Load(at, n)
			out = append(out, v, ok, string(m.Fetch(at, n)), m.Store(at, n, at+uint64(n)))
			for _, perm := range numbers {
				out = append(out, m.Holds(at, n, perm))
			}
		}
		for _, r := range m.Regions() {
			out = append(out, r.At, r.Perm, string(r.Bytes))
		}
	}
	return out
}

// TestAnyArguments: no call panics, and each answers the same when asked again of a memory with which the same was done.
func TestAnyArguments(t *testing.T) {
	for _, l := range [][]api.Region{nil, make([]api.Region, 64), {region(50, 7, "abcdefgh")}, ends().Regions(), apart(64)} {
		if one, two := told(t, l), told(t, l); !slices.Equal(one, two) {
			t.Error("other answers when asked again", l)
		}
	}
	for _, at := range []uint64{0, 1, 1 << 63, top - 1, top} {
		for _, perm := range append(notPerms, 0, 7) {
			for _, b := range [][]byte{nil, {1}, make([]byte, 40)} {
				l := []api.Region{{At: at, Perm: perm, Bytes: b}, {At: at, Perm: 7, Bytes: b}}
				_, e1 := mem.New(l)
				_, e2 := mem.New(l)
				if _, want := slowNew(l); e1 != want || e2 != want {
					t.Error(at, perm, len(b), e1, e2, want)
				}
			}
		}
	}
}
