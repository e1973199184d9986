package mem_test

import (
	"bytes"
	"math"
	"slices"
	"strings"
	"testing"

	"dovetail/api"
	"dovetail/mem"
)

const (
	top = math.MaxUint64
	// All permissions, and those without one.
	all       = api.PermX | api.PermW | api.PermR
	notX      = all - api.PermX
	notW      = all - api.PermW
	notR      = all - api.PermR
	mebibyte  = 1 << 20
	spareRoom = 16
)

// region is a region whose bytes are those of a text.
func region(at uint64, perm int, text string) api.Region {
	return api.Region{At: at, Perm: perm, Bytes: []byte(text)}
}

// made is a memory of right regions.
func made(l ...api.Region) *mem.Memory {
	m, e := mem.New(l)
	if e != api.OK || m == nil {
		panic(e.Error())
	}
	return m
}

// same says whether regions are the same.
func same(a, b []api.Region) bool {
	return slices.EqualFunc(a, b, func(a, b api.Region) bool {
		return a.At == b.At && a.Perm == b.Perm && bytes.Equal(a.Bytes, b.Bytes)
	})
}

// clone is regions that share nothing with others.
func clone(l []api.Region) []api.Region {
	out := []api.Region{}
	for _, r := range l {
		out = append(out, api.Region{At: r.At, Perm: r.Perm, Bytes: bytes.Clone(r.Bytes)})
	}
	return out
}

// roomy is regions that share nothing with others, each list with spare room in which something stands.
func roomy(l []api.Region) []api.Region {
	out := make([]api.Region, 0, len(l)+2)
	for _, r := range l {
		b := append(bytes.Clone(r.Bytes), bytes.Repeat([]byte{0xEE}, spareRoom)...)
		out = append(out, api.Region{At: r.At, Perm: r.Perm, Bytes: b[:len(r.Bytes)]})
	}
	_ = append(out, region(7000, all, "spare"), region(8000, all, "room"))
	return out
}

// whole is regions with all lists as long as their room.
func whole(l []api.Region) []api.Region {
	out := slices.Clone(l[:cap(l)])
	for n := range out {
		out[n].Bytes = out[n].Bytes[:cap(out[n].Bytes)]
	}
	return out
}

// spoil overwrites regions, their bytes and all spare room.
func spoil(l []api.Region) {
	l = l[:cap(l)]
	for n := range l {
		spoilBytes(l[n].Bytes)
		l[n] = region(uint64(n)*5+3, 7-l[n].Perm, "spoiled")
	}
}

// spoilBytes overwrites bytes and their spare room.
func spoilBytes(b []byte) {
	b = b[:cap(b)]
	for n := range b {
		b[n] ^= 0x5A
	}
}

// refuses holds that there is no memory of some regions.
func refuses(t *testing.T, what string, want api.Errno, l ...api.Region) {
	t.Helper()
	if m, e := mem.New(l); e != want || m != nil {
		t.Errorf("%s: %v, not %v", what, e, want)
	}
}

// has holds the regions that a memory has.
func has(t *testing.T, what string, m *mem.Memory, want ...api.Region) {
	t.Helper()
	if got := m.Regions(); !same(got, want) {
		t.Errorf("%s: %v, not %v", what, got, want)
	}
}

// loads holds what a load answers.
func loads(t *testing.T, m *mem.Memory, at uint64, n int, want uint64, there bool) {
	t.Helper()
	if v, ok := m.Load(at, n); v != want || ok != there {
		t.Errorf("%d bytes at %#x: %#x, %v, not %#x, %v", n, at, v, ok, want, there)
	}
}

// fails holds that a store answers false and changes nothing.
func fails(t *testing.T, m *mem.Memory, at uint64, n int) {
	t.Helper()
	before := m.Regions()
	if m.Store(at, n, 0x1122334455667788) {
		t.Errorf("%d bytes are put at %#x", n, at)
	}
	has(t, "behind a store that failed", m, before...)
}

// fetches holds the bytes that may be run.
func fetches(t *testing.T, m *mem.Memory, at uint64, n int, want string) {
	t.Helper()
	if b := m.Fetch(at, n); string(b) != want {
		t.Errorf("%d bytes at %#x: % x, not % x", n, at, b, want)
	}
}

// notSizes are no numbers of bytes that a number may have.
var notSizes = []int{math.MinInt, math.MinInt + 1, -1 << 32, -1, 0, 9, 10, 15, 16, 64, 1 << 32, 1<<32 + 1, 1<<32 + 8, math.MaxInt - 1, math.MaxInt}

// notPerms are no sums of permissions.
var notPerms = []int{math.MinInt, math.MinInt + 7, -1 << 32, -8, -7, -4, -1, 8, 9, 12, 15, 16, 255, 1 << 32, 1<<32 + 7, math.MaxInt - 7, math.MaxInt}

// P7.1

func TestNewRight(t *testing.T) {
	for _, c := range []struct {
		what string
		l    []api.Region
		want []api.Region
	}{
		{"nil", nil, nil},
		{"none", []api.Region{}, nil},
		{"one", []api.Region{region(16, 4, "\x01\x02")}, []api.Region{region(16, 4, "\x01\x02")}},
		{"a byte at 0", []api.Region{region(0, 1, "a")}, []api.Region{region(0, 1, "a")}},
		{"a byte at the last address", []api.Region{region(top, 2, "a")}, []api.Region{region(top, 2, "a")}},
		{"up to the last address", []api.Region{region(top-4, 2, "abcde")}, []api.Region{region(top-4, 2, "abcde")}},
		{"one behind the other", []api.Region{region(5, 1, "abc"), region(8, 1, "d"), region(9, 3, "ef")}, []api.Region{region(5, 1, "abc"), region(8, 1, "d"), region(9, 3, "ef")}},
		{"falling", []api.Region{region(top, 0, "c"), region(1<<63, 5, "b"), region(1<<63-1, 6, "a"), region(0, 7, "z")}, []api.Region{region(0, 7, "z"), region(1<<63-1, 6, "a"), region(1<<63, 5, "b"), region(top, 0, "c")}},
		{"both ends", []api.Region{region(top-1, 7, "ab"), region(0, 7, "cd")}, []api.Region{region(0, 7, "cd"), region(top-1, 7, "ab")}},
	} {
		m, e := mem.New(c.l)
		if e != api.OK || m == nil {
			t.Error(c.what, e)
			continue
		}
		has(t, c.what, m, c.want...)
	}
	for perm := range 8 {
		has(t, "all sums", made(region(3, perm, "abc")), region(3, perm, "abc"))
	}
}

// TestNewWithoutBytes: a region without bytes is nowhere.
func TestNewWithoutBytes(t *testing.T) {
	for _, at := range []uint64{0, 4, 5, 6, 7, 8, 1 << 63, top - 1, top} {
		for perm := range 8 {
			for _, b := range [][]byte{nil, {}, make([]byte, 0, 9)} {
				empty := api.Region{At: at, Perm: perm, Bytes: b}
				has(t, "alone", made(empty))
				has(t, "twice", made(empty, empty))
				m := made(empty, region(5, all, "abc"), empty)
				has(t, "with another", m, region(5, all, "abc"))
				fetches(t, m, 5, 3, "abc")
				if m.Holds(at, 1, perm) != (at >= 5 && at < 8) {
					t.Error("Holds", at, perm)
				}
			}
		}
	}
	// It parts no bytes that lie one after the other.
	m := made(region(5, all, "ab"), region(7, 0, ""), region(7, all, "cd"))
	loads(t, m, 5, 4, 0x64636261, true)
	fetches(t, m, 5, 9, "abcd")
}

func TestNewRegion(t *testing.T) {
	for _, perm := range notPerms {
		refuses(t, "Perm", api.ErrRegion, region(16, perm, "a"))
		refuses(t, "Perm without bytes", api.ErrRegion, api.Region{At: 16, Perm: perm})
		refuses(t, "Perm behind others", api.ErrRegion, region(1, all, "a"), region(top, all, "a"), region(16, perm, "a"))
	}
	for n := 2; n < 40; n++ {
		text := strings.Repeat("x", n)
		for over := 1; over < n; over++ {
			refuses(t, "beyond", api.ErrRegion, region(top-uint64(n-1-over), all, text))
		}
		has(t, "up to the last address", made(region(top-uint64(n-1), 4, text)), region(top-uint64(n-1), 4, text))
	}
	refuses(t, "beyond behind others", api.ErrRegion, region(1, all, "a"), api.Region{At: top}, region(top, all, "ab"))
	refuses(t, "beyond of many bytes", api.ErrRegion, api.Region{At: top - mebibyte + 2, Bytes: make([]byte, mebibyte)})
}

func TestNewOverlap(t *testing.T) {
	for _, c := range [][]api.Region{
		{region(5, all, "a"), region(5, all, "a")},
		{region(0, all, "a"), region(0, 0, "b")},
		{region(top, all, "a"), region(top, all, "b")},
		{region(top-1, all, "ab"), region(top, 0, "b")},
		{region(5, all, "abc"), region(5, all, "a")},
		{region(5, all, "abc"), region(6, all, "a")},
		{region(5, all, "abc"), region(7, all, "a")},
		{region(5, all, "abc"), region(7, 0, "abcdef")},
		{region(5, 0, "abc"), region(3, 0, "abcdef")},
		{region(5, all, "abc"), region(8, all, "abc"), region(10, all, "a")},
		{region(5, all, "abcdefghi"), region(6, all, ""), region(13, all, "a")},
		{region(1<<63-1, all, "ab"), region(1<<63, all, "ab")},
	} {
		refuses(t, "overlap", api.ErrOverlap, c...)
		slices.Reverse(c)
		refuses(t, "overlap reversed", api.ErrOverlap, c...)
		c = append(c, region(1000, all, "a"), region(20, all, "b"), region(40, all, "c"))
		refuses(t, "overlap among others", api.ErrOverlap, c...)
	}
	// A long one over some others that don't share an address with one another.
	long := region(100, 4, strings.Repeat("x", 100))
	for at := uint64(80); at < 220; at++ {
		l := []api.Region{region(at, 4, "abc"), long, region(50, 4, "a"), region(300, 4, "a")}
		if at+3 <= 100 || at >= 200 {
			made(l...)
		} else {
			refuses(t, "overlap of a long one", api.ErrOverlap, l...)
		}
	}
}

// apart is so many regions of one byte that don't touch.
func apart(n int) []api.Region {
	var out []api.Region
	for k := range n {
		out = append(out, region(uint64(k)*2, k%8, string(rune('0'+k))))
	}
	return out
}

func TestNewMany(t *testing.T) {
	has(t, "64", made(apart(64)...), apart(64)...)
	refuses(t, "65", api.ErrMemMany, apart(65)...)
	refuses(t, "200", api.ErrMemMany, apart(200)...)
	// Those without bytes count.
	has(t, "64 without bytes", made(make([]api.Region, 64)...))
	refuses(t, "65 without bytes", api.ErrMemMany, make([]api.Region, 65)...)
	has(t, "one without bytes", made(append(apart(63), api.Region{At: 1})...), apart(63)...)
	refuses(t, "one without bytes too many", api.ErrMemMany, append(apart(64), api.Region{At: 1})...)
}

func TestNewManyBytes(t *testing.T) {
	b := make([]byte, api.MaxMemory+1)
	b[0], b[api.MaxMemory-1] = 5, 6
	m := made(api.Region{At: 16, Perm: 4, Bytes: b[:api.MaxMemory]})
	loads(t, m, 16, 1, 5, true)
	loads(t, m, 16+api.MaxMemory-1, 1, 6, true)
	loads(t, m, 16+api.MaxMemory, 1, 0, false)
	refuses(t, "a byte too many", api.ErrMemMany, api.Region{At: 16, Perm: 4, Bytes: b})
	refuses(t, "a byte too many at the last address", api.ErrMemMany, api.Region{At: top - api.MaxMemory, Perm: 4, Bytes: b})
	halves := []api.Region{{At: 16, Perm: 4, Bytes: b[:api.MaxMemory/2]}, {At: 1 << 40, Perm: 4, Bytes: b[api.MaxMemory/2 : api.MaxMemory]}}
	loads(t, made(halves...), 1<<40+api.MaxMemory/2-1, 1, 6, true)
	refuses(t, "two and a byte", api.ErrMemMany, append(halves, region(1, 4, "a"))...)
	// Bytes that are handed in more than once count each time.
	var shared []api.Region
	for n := range 63 {
		shared = append(shared, api.Region{At: uint64(n) << 32, Perm: 4, Bytes: b[:mebibyte]})
	}
	made(append(shared, api.Region{At: 1 << 50, Bytes: b[:mebibyte]})...)
	refuses(t, "64 and a byte", api.ErrMemMany, append(shared, api.Region{At: 1 << 50, Bytes: b[:mebibyte+1]})...)
}

// TestNewOrder: ErrMemMany comes ahead of ErrRegion, and that ahead of ErrOverlap, whichever region is the first in the list.
func TestNewOrder(t *testing.T) {
	much := api.Region{At: 1 << 40, Bytes: make([]byte, api.MaxMemory+1)}
	perm, over := region(5, 8, "a"), region(top, 4, "ab")
	one, two := region(5, 4, "abc"), region(6, 4, "abc")
	for _, c := range []struct {
		want api.Errno
		l    []api.Region
	}{
		{api.ErrMemMany, append(apart(63), perm, perm)},
		{api.ErrMemMany, append(apart(63), over, one)},
		{api.ErrMemMany, append(apart(63), one, two)},
		{api.ErrMemMany, []api.Region{perm, much}},
		{api.ErrMemMany, []api.Region{over, much}},
		{api.ErrMemMany, []api.Region{one, two, much}},
		{api.ErrMemMany, []api.Region{{At: top, Perm: 9, Bytes: much.Bytes}}},
		{api.ErrRegion, []api.Region{one, two, perm}},
		{api.ErrRegion, []api.Region{one, two, over}},
		{api.ErrRegion, []api.Region{one, two, {Perm: -1}}},
		{api.ErrRegion, []api.Region{one, perm}},
		{api.ErrOverlap, []api.Region{one, two}},
	} {
		refuses(t, "order", c.want, c.l...)
		slices.Reverse(c.l)
		refuses(t, "order reversed", c.want, c.l...)
	}
}

func TestErrorsAreThoseOfTheChapter(t *testing.T) {
	_, e1 := mem.New([]api.Region{{Perm: 8}})
	_, e2 := mem.New([]api.Region{region(1, 0, "a"), region(1, 0, "a")})
	_, e3 := mem.New(make([]api.Region, 65))
	if e1 != 71 || e2 != 72 || e3 != 73 {
		t.Error(e1, e2, e3)
	}
}

// TestNewKeepsNothing: regions that are handed in aren't changed, and what is done to them afterwards changes no memory; nor does a memory change them.
func TestNewKeepsNothing(t *testing.T) {
	l := []api.Region{region(40, 6, "klm"), region(9, 2, ""), region(20, 7, "abcd"), region(24, 3, "efg"), region(30, 0, "z")}
	want := []api.Region{region(20, 7, "abcd"), region(24, 3, "efg"), region(30, 0, "z"), region(40, 6, "klm")}
	given := roomy(l)
	m, e := mem.New(given)
	if e != api.OK {
		t.Fatal(e)
	}
	if !same(whole(given), whole(roomy(l))) {
		t.Error("changed by New", whole(given))
	}
	spoil(given)
	has(t, "spoiled", m, want...)
	given = roomy(l)
	m = made(given...)
	if !m.Store(22, 4, 0x11223344) || !m.Store(40, 1, 9) {
		t.Error("Store")
	}
	if !same(whole(given), whole(roomy(l))) {
		t.Error("changed by Store", whole(given))
	}
	for _, wrong := range [][]api.Region{{region(9, 8, "ab"), region(3, 0, "c")}, {region(9, 1, "ab"), region(8, 0, "cd")}, make([]api.Region, 65)} {
		given = roomy(wrong)
		if _, e := mem.New(given); e == api.OK || !same(whole(given), whole(roomy(wrong))) {
			t.Error("changed by a New that failed", e, whole(given))
		}
	}
}

// TestNewSharesNothing: two memories, and two regions of one, that are made of the same bytes have bytes of their own.
func TestNewSharesNothing(t *testing.T) {
	b := []byte("abcdef")
	l := []api.Region{{At: 10, Perm: 6, Bytes: b}, {At: 20, Perm: 6, Bytes: b[2:4]}}
	one, two := made(l...), made(l...)
	if !one.Store(12, 2, 0x5958) {
		t.Error("Store")
	}
	has(t, "one", one, region(10, 6, "abXYef"), region(20, 6, "cd"))
	has(t, "two", two, region(10, 6, "abcdef"), region(20, 6, "cd"))
	if string(b) != "abcdef" {
		t.Error(b)
	}
	// Neither is the room behind a region's bytes memory.
	loads(t, made(l[1]), 20, 3, 0, false)
}

// P7.2

func TestLoadByHand(t *testing.T) {
	m := made(region(16, 4, "\x01\x02"))
	loads(t, m, 16, 2, 513, true)
	loads(t, m, 17, 2, 0, false)
	loads(t, m, 16, 1, 1, true)
	loads(t, m, 17, 1, 2, true)
	loads(t, m, 15, 1, 0, false)
	loads(t, m, 15, 2, 0, false)
	loads(t, m, 18, 1, 0, false)
	loads(t, m, 0, 1, 0, false)
	loads(t, m, top, 1, 0, false)
	m = made(region(100, 7, "\xF1\xF2\xF3\xF4\xF5\xF6\xF7\xF8\xF9"))
	for n, want := range []uint64{0xF1, 0xF2F1, 0xF3F2F1, 0xF4F3F2F1, 0xF5F4F3F2F1, 0xF6F5F4F3F2F1, 0xF7F6F5F4F3F2F1, 0xF8F7F6F5F4F3F2F1} {
		loads(t, m, 100, n+1, want, true)
		loads(t, m, uint64(108-n), n+1, 0xF9F8F7F6F5F4F3F2>>(56-8*n), true)
		loads(t, m, uint64(109-n), n+1, 0, false)
		loads(t, m, 99, n+1, 0, false)
	}
	loads(t, made(region(7, 4, "\x00\x00\x00")), 7, 3, 0, true)
	loads(t, made(), 0, 1, 0, false)
}

func TestLoadSizes(t *testing.T) {
	m := made(region(0, 7, strings.Repeat("x", 200)))
	for _, n := range notSizes {
		for _, at := range []uint64{0, 1, 100, 199, 200, 1 << 40, top - 7, top} {
			loads(t, m, at, n, 0, false)
			fails(t, m, at, n)
			for perm := range 8 {
				if m.Holds(at, n, perm) {
					t.Error("Holds", at, n, perm)
				}
			}
		}
	}
}

// pieced is a memory of one byte a region, one after the other from 50 on, where one of them has other permissions.
func pieced(count, perm, odd, oddPerm int) *mem.Memory {
	var l []api.Region
	for n := range count {
		p := perm
		if n == odd {
			p = oddPerm
		}
		l = append(l, region(50+uint64(n), p, string(rune('a'+n))))
	}
	slices.Reverse(l)
	return made(l...)
}

// TestAcross: bytes may lie in some regions, each of which must have the permission.
func TestAcross(t *testing.T) {
	for n := 1; n <= 8; n++ {
		for odd := -1; odd < n; odd++ {
			for perm := range 8 {
				m := pieced(10, all, odd, perm)
				v, ok := m.Load(50, n)
				readable := odd < 0 || perm&api.PermR != 0
				if ok != readable || v != 0 != readable {
					t.Fatal("Load", n, odd, perm, v, ok)
				}
				if readable && v != 0x6867666564636261&(1<<(8*n)-1) {
					t.Fatalf("%d bytes: %#x", n, v)
				}
				if odd >= 0 && perm&api.PermW == 0 {
					fails(t, m, 50, n)
					continue
				}
				want := m.Regions()
				for k := range n {
					want[k].Bytes[0] = byte('1' + k)
				}
				if !m.Store(50, n, 0x3837363534333231) {
					t.Fatal("Store", n, odd, perm)
				}
				has(t, "across", m, want...)
			}
		}
	}
}

// TestPermissions: a load asks for PermR alone, a store for PermW alone, a fetch for PermX alone.
func TestPermissions(t *testing.T) {
	for perm := range 8 {
		m := made(region(50, perm, "ab"))
		if v, ok := m.Load(50, 2); ok != (perm&api.PermR != 0) || ok != (v == 0x6261) {
			t.Error("Load", perm, v, ok)
		}
		if b := m.Fetch(50, 2); (string(b) == "ab") != (perm&api.PermX != 0) || len(b)%2 != 0 {
			t.Error("Fetch", perm, b)
		}
		if ok := m.Store(50, 2, 0x5958); ok != (perm&api.PermW != 0) {
			t.Error("Store", perm, ok)
		}
		want := "ab"
		if perm&api.PermW != 0 {
			want = "XY"
		}
		has(t, "Store", m, region(50, perm, want))
	}
}

func TestStoreByHand(t *testing.T) {
	m := made(region(100, 7, "abcdefghijkl"))
	for _, c := range []struct {
		at   uint64
		n    int
		v    uint64
		want string
	}{
		{100, 1, 0x30, "0bcdefghijkl"},
		{111, 1, 0x31, "0bcdefghijk1"},
		{101, 1, 0x7777777777777732, "02cdefghijk1"},
		{102, 2, 0x7777777777774241, "02ABefghijk1"},
		{104, 8, 0x5857565554535251, "02ABQRSTUVWX"},
		{100, 8, 0x6867666564636261, "abcdefghUVWX"},
		{103, 3, 0x333231, "abc123ghUVWX"},
		{103, 4, 0, "abc\x00\x00\x00\x00hUVWX"},
		{105, 7, 0x8866554433221100, "abc\x00\x00\x00\x11\x22\x33\x44\x55\x66"},
		{100, 5, 0x7766554433221100, "\x00\x11\x22\x33\x44\x00\x11\x22\x33\x44\x55\x66"},
		{106, 6, math.MaxUint64, "\x00\x11\x22\x33\x44\x00\xFF\xFF\xFF\xFF\xFF\xFF"},
	} {
		if !m.Store(c.at, c.n, c.v) {
			t.Error("Store", c)
		}
		has(t, "Store", m, region(100, 7, c.want))
		loads(t, m, c.at, c.n, c.v<<(64-8*c.n)>>(64-8*c.n), true)
	}
	for n := 1; n <= 8; n++ {
		for at := uint64(99 - n); at < 116; at++ {
			if at < 100 || at+uint64(n) > 112 {
				fails(t, m, at, n)
			}
		}
		fails(t, m, 0, n)
		fails(t, m, top, n)
		fails(t, made(), 0, n)
	}
}

// ends is a memory that lies at both ends of the addresses.
func ends() *mem.Memory {
	return made(region(0, 7, "abcdefghijklmnopqrst"), region(top-9, 7, "0123456789"))
}

// TestLastAddress: what would reach beyond the last address isn't there, whatever lies at 0.
func TestLastAddress(t *testing.T) {
	m := ends()
	for n := 1; n <= 8; n++ {
		for back := range uint64(10) {
			at := top - back
			there := n <= int(back)+1
			if v, ok := m.Load(at, n); ok != there || v != 0 != there {
				t.Error("Load", back, n, v, ok)
			}
			for perm := range 8 {
				if m.Holds(at, n, perm) != there {
					t.Error("Holds", back, n, perm)
				}
			}
			if !there {
				fails(t, m, at, n)
			} else if !m.Store(at, n, 0x1111111111111111) {
				t.Error("Store", back, n)
			}
			fetches(t, ends(), at, n, "0123456789"[9-back:][:min(n, int(back)+1)])
			fetches(t, ends(), at, 15, "0123456789"[9-back:])
		}
	}
	loads(t, ends(), top-7, 8, 0x3938373635343332, true)
	loads(t, ends(), 0, 8, 0x6867666564636261, true)
	has(t, "the one at 0", made(m.Regions()[0]), region(0, 7, "abcdefghijklmnopqrst"))
	// A region that has the last address alone, and one without bytes there.
	m = made(region(top, 7, "z"), region(0, 7, "abc"), region(top, 7, ""))
	loads(t, m, top, 1, 'z', true)
	loads(t, m, top, 2, 0, false)
	fetches(t, m, top, 15, "z")
	fetches(t, m, 0, 15, "abc")
}

// P7.3

func TestFetchByHand(t *testing.T) {
	text := "abcdefghijklmnopqrstuvwxyz"
	m := made(region(100, 1, text))
	for n := range 16 {
		fetches(t, m, 100, n, text[:n])
		fetches(t, m, 105, n, text[5:5+n])
		fetches(t, m, 120, n, text[20:20+min(n, 6)])
		fetches(t, m, 125, n, "z"[:min(n, 1)])
		for _, at := range []uint64{0, 98, 99, 126, 127, 1 << 63, top} {
			fetches(t, m, at, n, "")
		}
		fetches(t, made(), 100, n, "")
	}
	for _, n := range []int{15, 16, 17, 26, 27, 64, 1 << 32, math.MaxInt - 1, math.MaxInt} {
		fetches(t, m, 100, n, text[:15])
		fetches(t, m, 111, n, text[11:])
		fetches(t, m, 112, n, text[12:])
		fetches(t, m, 126, n, "")
	}
	for _, n := range []int{0, -1, -2, -15, -1 << 32, math.MinInt + 1, math.MinInt} {
		fetches(t, m, 100, n, "")
		fetches(t, m, 120, n, "")
	}
}

func TestFetchAcross(t *testing.T) {
	for odd := range 17 {
		for perm := range 8 {
			for n := range 17 {
				want := "abcdefghijklmnopq"[:min(n, 15)]
				if perm&api.PermX == 0 {
					want = want[:min(len(want), odd)]
				}
				fetches(t, pieced(17, api.PermX, odd, perm), 50, n, want)
			}
		}
	}
	// A gap of one byte ends it.
	m := made(region(59, 1, "jkl"), region(50, 7, "abcd"), region(55, 3, "fgh"), region(54, 5, "e"))
	fetches(t, m, 50, 15, "abcdefgh")
	fetches(t, m, 57, 15, "h")
	fetches(t, m, 58, 15, "")
	fetches(t, m, 59, 15, "jkl")
	fetches(t, m, 53, 3, "def")
}

// TestFetchIsNew: bytes that were fetched stay as they were, and what is done to them changes no memory.
func TestFetchIsNew(t *testing.T) {
	m := made(region(50, 7, "abcdefghijklmnopqrst"), region(70, 7, "uvw"))
	one, two := m.Fetch(50, 9), m.Fetch(65, 9)
	if !m.Store(50, 2, 0) || string(one) != "abcdefghi" {
		t.Error("changed by Store", one)
	}
	spoilBytes(one)
	if string(two) != "pqrstuvw" {
		t.Error("shared by two answers", two)
	}
	spoilBytes(two)
	has(t, "spoiled", m, region(50, 7, "\x00\x00cdefghijklmnopqrst"), region(70, 7, "uvw"))
}

// TestFetchSees: what is stored is fetched and loaded from then on.
func TestFetchSees(t *testing.T) {
	m := made(region(50, 7, "abc"), region(53, 7, "def"))
	if !m.Store(52, 2, 0x5958) {
		t.Error("Store")
	}
	fetches(t, m, 50, 15, "abXYef")
	loads(t, m, 50, 6, 0x666559586261, true)
}

func TestHolds(t *testing.T) {
	for has := range 8 {
		m := made(region(50, has, "abc"), region(53, has, "de"), region(60, has, "abcdefghi"))
		for perm := range 8 {
			for n := 1; n <= 8; n++ {
				for at := uint64(40); at < 75; at++ {
					behind := at + uint64(n)
					there := at >= 50 && behind <= 55 || at >= 60 && behind <= 69
					if m.Holds(at, n, perm) != (there && has&perm == perm) {
						t.Fatal(has, perm, at, n)
					}
				}
			}
		}
		for _, perm := range notPerms {
			if m.Holds(50, 1, perm) || m.Holds(60, 8, perm) || m.Holds(0, 1, perm) {
				t.Error(has, perm)
			}
		}
	}
}

// TestHoldsAcross: each of the regions must have all of the permissions, not one some and another the others.
func TestHoldsAcross(t *testing.T) {
	m := made(region(50, notX, "ab"), region(52, notW, "ab"), region(54, notR, "ab"))
	for at := uint64(50); at < 56; at++ {
		for n := 1; n <= 8; n++ {
			for perm := range 8 {
				want := at+uint64(n) <= 56
				for k := at; k < min(at+uint64(n), 56); k++ {
					want = want && []int{notX, notW, notR}[(k-50)/2]&perm == perm
				}
				if m.Holds(at, n, perm) != want {
					t.Error(at, n, perm)
				}
			}
		}
	}
}

// P7.4

// TestRegionsNow: the regions are those at the time of the call, new memory each time.
func TestRegionsNow(t *testing.T) {
	m := made(region(60, 6, "ghi"), region(55, 1, ""), region(50, 6, "abc"), region(53, 2, "d"))
	first := m.Regions()
	if !m.Store(52, 2, 0x5958) {
		t.Error("Store")
	}
	if !same(first, []api.Region{region(50, 6, "abc"), region(53, 2, "d"), region(60, 6, "ghi")}) {
		t.Error("an answer has changed", first)
	}
	want := []api.Region{region(50, 6, "abX"), region(53, 2, "Y"), region(60, 6, "ghi")}
	second, third := m.Regions(), m.Regions()
	if !same(second, want) || !same(third, want) {
		t.Error(second, third)
	}
	spoil(second)
	if !same(third, want) {
		t.Error("shared by two answers", third)
	}
	spoilBytes(third[0].Bytes)
	if !same(third[1:], want[1:]) {
		t.Error("shared by two lists of one answer", third)
	}
	has(t, "spoiled", m, want...)
	loads(t, m, 50, 3, 0x586261, true)
}

// TestRegionsAgain: the regions of a memory make the same memory.
func TestRegionsAgain(t *testing.T) {
	m := made(apart(64)...)
	again := made(m.Regions()...)
	has(t, "again", again, m.Regions()...)
	if !again.Store(4, 1, 'Z') {
		t.Error("Store")
	}
	has(t, "the old one", m, apart(64)...)
}
