package buf_test

import (
	"bytes"
	"math"
	"math/big"
	"strings"
	"testing"

	"dovetail/api"
	"dovetail/buf"
)

// plenty is bytes of no order, none of them equal to its neighbours.
func plenty(n int) []byte {
	b := make([]byte, n)
	some := uint32(n + 1)
	for i := range b {
		some = some*1664525 + 1013904223
		b[i] = byte(some >> 24)
		if i > 0 && b[i] == b[i-1] {
			b[i] ^= 0x55
		}
	}
	return b
}

// roomy is b with spare room behind it, and that room.
func roomy(b []byte) ([]byte, []byte) {
	all := append(append([]byte{}, b...), bytes.Repeat([]byte{0xEE}, 16)...)
	return all[:len(b)], all[len(b):]
}

func words() []uint64 {
	return []uint64{0, 1, 0x7f, 0x80, 0xff, 0x100, 0xABCD, 1<<32 | 7, 1<<63 - 1, 1 << 63, 0x0123456789abcdef, 0xfedcba9876543210, math.MaxUint64}
}

func notSizes() []int {
	return []int{math.MinInt, math.MinInt + 1, -1 << 32, -8, -1, 0, 9, 10, 16, 64, 1 << 32, 1<<32 + 4, math.MaxInt - 1, math.MaxInt}
}

// farPlaces lie outside of all bytes.
func farPlaces() []int {
	return []int{math.MinInt, math.MinInt + 1, math.MinInt + 8, -1 << 32, -9, -8, -2, -1, 1 << 31, 1 << 32, 1<<32 + 1, 1 << 62, math.MaxInt - 9, math.MaxInt - 8, math.MaxInt - 7, math.MaxInt - 1, math.MaxInt}
}

// digits is v's lowest n bytes by division, the lowest first.
func digits(n int, v uint64) []byte {
	var out []byte
	for range n {
		out = append(out, byte(v%256))
		v /= 256
	}
	return out
}

// number is what the bytes are as digits of base 256, the lowest first.
func number(b []byte) uint64 {
	v := new(big.Int)
	for i := len(b) - 1; i >= 0; i-- {
		v.Mul(v, big.NewInt(256)).Add(v, big.NewInt(int64(b[i])))
	}
	return v.Uint64()
}

// P2.1

func TestGetByHand(t *testing.T) {
	for _, c := range []struct {
		b     []byte
		at, n int
		want  uint64
	}{
		{[]byte{1, 2, 3}, 1, 2, 770},
		{[]byte{1, 2, 3}, 0, 1, 1},
		{[]byte{1, 2, 3}, 2, 1, 3},
		{[]byte{1, 2, 3}, 0, 3, 0x030201},
		{[]byte{0xff}, 0, 1, 255},
		{[]byte{0, 0x80}, 0, 2, 0x8000},
		{[]byte{1, 2, 3, 4, 5, 6, 7, 8}, 0, 8, 0x0807060504030201},
		{[]byte{9, 1, 2, 3, 4, 5, 6, 7, 0xf8}, 1, 8, 0xf807060504030201},
		{bytes.Repeat([]byte{0xff}, 8), 0, 8, math.MaxUint64},
	} {
		if got, e := buf.Get(c.b, c.at, c.n); got != c.want || e != api.OK {
			t.Error(c, got, e)
		}
	}
}

func TestGet(t *testing.T) {
	for size := range 20 {
		b, spare := roomy(plenty(size))
		before := bytes.Clone(b)
		for n := -2; n <= 11; n++ {
			for at := -3; at <= size+3; at++ {
				got, e := buf.Get(b, at, n)
				if n >= 1 && n <= 8 && at >= 0 && at+n <= size {
					if want := number(before[at : at+n]); got != want || e != api.OK {
						t.Fatal(size, at, n, got, want, e)
					}
				} else if got != 0 || e != api.ErrBuf {
					t.Fatal(size, at, n, got, e)
				}
			}
		}
		if !bytes.Equal(b, before) || !bytes.Equal(spare, bytes.Repeat([]byte{0xEE}, 16)) {
			t.Fatal("changed", size)
		}
	}
}

func TestGetRefused(t *testing.T) {
	for _, b := range [][]byte{nil, {}, {1}, plenty(8), plenty(100)} {
		for n := 1; n <= 8; n++ {
			for _, at := range append(farPlaces(), len(b), len(b)+1, len(b)-n+1) {
				if got, e := buf.Get(b, at, n); got != 0 || e != api.ErrBuf {
					t.Error(len(b), at, n, got, e)
				}
			}
		}
		for _, n := range notSizes() {
			for _, at := range append(farPlaces(), 0, 1, len(b)) {
				if got, e := buf.Get(b, at, n); got != 0 || e != api.ErrBuf {
					t.Error(len(b), at, n, got, e)
				}
			}
		}
	}
}

func TestPutByHand(t *testing.T) {
	for _, c := range []struct {
		b     []byte
		at, n int
		v     uint64
		want  []byte
	}{
		{[]byte{1, 2, 3, 4}, 1, 2, 0xABCD, []byte{1, 0xCD, 0xAB, 4}},
		{[]byte{1, 2, 3, 4}, 0, 1, 0x1ff, []byte{0xff, 2, 3, 4}},
		{[]byte{1, 2, 3, 4}, 3, 1, 0x100, []byte{1, 2, 3, 0}},
		{[]byte{1, 2, 3, 4}, 0, 4, 0xAABBCCDDEE, []byte{0xEE, 0xDD, 0xCC, 0xBB}},
		{[]byte{1, 2, 3, 4, 5, 6, 7, 8}, 0, 8, 0xf102030405060708, []byte{8, 7, 6, 5, 4, 3, 2, 0xf1}},
		{[]byte{1, 2, 3, 4, 5, 6, 7, 8, 9}, 1, 8, 0, []byte{1, 0, 0, 0, 0, 0, 0, 0, 0}},
	} {
		if got, e := buf.Put(c.b, c.at, c.n, c.v); !bytes.Equal(got, c.want) || e != api.OK {
			t.Error(c, got, e)
		}
	}
}

func TestPut(t *testing.T) {
	for size := range 20 {
		b, spare := roomy(plenty(size))
		before := bytes.Clone(b)
		for n := -2; n <= 11; n++ {
			for at := -3; at <= size+3; at++ {
				for _, v := range words() {
					got, e := buf.Put(b, at, n, v)
					if n >= 1 && n <= 8 && at >= 0 && at+n <= size {
						want := append(append(bytes.Clone(before[:at]), digits(n, v)...), before[at+n:]...)
						if !bytes.Equal(got, want) || e != api.OK {
							t.Fatal(size, at, n, v, got, want, e)
						}
						overwrite(got)
					} else if len(got) != 0 || e != api.ErrBuf {
						t.Fatal(size, at, n, v, got, e)
					}
					if !bytes.Equal(b, before) || !bytes.Equal(spare, bytes.Repeat([]byte{0xEE}, 16)) {
						t.Fatal("changed", size, at, n, v)
					}
				}
			}
		}
	}
}

// overwrite fills an answer and its spare room, so that what it shares with an argument would show.
func overwrite(b []byte) {
	b = b[:cap(b)]
	for i := range b {
		b[i] = 0x77
	}
}

func TestPutRefused(t *testing.T) {
	for _, b := range [][]byte{nil, {}, {1}, plenty(8), plenty(100)} {
		before := bytes.Clone(b)
		for n := 1; n <= 8; n++ {
			for _, at := range append(farPlaces(), len(b), len(b)+1, len(b)-n+1) {
				if got, e := buf.Put(b, at, n, math.MaxUint64); len(got) != 0 || e != api.ErrBuf {
					t.Error(len(b), at, n, got, e)
				}
			}
		}
		for _, n := range notSizes() {
			for _, at := range append(farPlaces(), 0, 1, len(b)) {
				if got, e := buf.Put(b, at, n, math.MaxUint64); len(got) != 0 || e != api.ErrBuf {
					t.Error(len(b), at, n, got, e)
				}
			}
		}
		if !bytes.Equal(b, before) {
			t.Error("changed", len(b))
		}
	}
}

func TestAppendByHand(t *testing.T) {
	for _, c := range []struct {
		b    []byte
		n    int
		v    uint64
		want []byte
	}{
		{nil, 1, 0x1234, []byte{0x34}},
		{[]byte{}, 8, 0xf102030405060708, []byte{8, 7, 6, 5, 4, 3, 2, 0xf1}},
		{[]byte{1, 2, 3, 4}, 3, 1<<32 | 7, []byte{1, 2, 3, 4, 7, 0, 0}},
		{[]byte{1}, 2, 0xABCD, []byte{1, 0xCD, 0xAB}},
		{[]byte{0}, 1, 0, []byte{0, 0}},
	} {
		if got, e := buf.Append(c.b, c.n, c.v); !bytes.Equal(got, c.want) || e != api.OK {
			t.Error(c, got, e)
		}
	}
}

func TestAppend(t *testing.T) {
	for size := range 20 {
		b, spare := roomy(plenty(size))
		before := bytes.Clone(b)
		for n := 1; n <= 8; n++ {
			for _, v := range words() {
				got, e := buf.Append(b, n, v)
				if want := append(bytes.Clone(before), digits(n, v)...); !bytes.Equal(got, want) || e != api.OK {
					t.Fatal(size, n, v, got, want, e)
				}
				if other, _ := buf.Append(got, n, v); len(other) > 0 {
					overwrite(other)
				}
				if !bytes.Equal(got[:size], before) {
					t.Fatal("shared by an answer and its argument", size, n, v)
				}
				overwrite(got)
				if !bytes.Equal(b, before) || !bytes.Equal(spare, bytes.Repeat([]byte{0xEE}, 16)) {
					t.Fatal("changed", size, n, v)
				}
			}
		}
		for _, n := range notSizes() {
			if got, e := buf.Append(b, n, 1); len(got) != 0 || e != api.ErrBuf {
				t.Fatal(size, n, got, e)
			}
		}
		if !bytes.Equal(b, before) || !bytes.Equal(spare, bytes.Repeat([]byte{0xEE}, 16)) {
			t.Fatal("changed", size)
		}
	}
}

// TestThereAndBack: what is put or appended is what is got.
func TestThereAndBack(t *testing.T) {
	for n := 1; n <= 8; n++ {
		for _, v := range words() {
			want := v << (64 - 8*n) >> (64 - 8*n)
			for at := range 5 {
				p, e1 := buf.Put(plenty(12), at, n, v)
				got, e2 := buf.Get(p, at, n)
				if got != want || e1 != api.OK || e2 != api.OK {
					t.Error(n, v, at, got, e1, e2)
				}
			}
			p, e1 := buf.Append(plenty(12), n, v)
			got, e2 := buf.Get(p, 12, n)
			if got != want || e1 != api.OK || e2 != api.OK {
				t.Error(n, v, got, e1, e2)
			}
		}
	}
}

// P2.2

func TestUpByHand(t *testing.T) {
	for _, c := range [][3]int{
		{13, 8, 16}, {16, 8, 16}, {17, 8, 24}, {0, 8, 0}, {1, 8, 8}, {7, 8, 8}, {8, 8, 8}, {9, 8, 16},
		{0, 1, 0}, {1, 1, 1}, {13, 1, 13}, {1 << 40, 1, 1 << 40}, {1<<40 - 1, 1, 1<<40 - 1},
		{0, 1 << 30, 0}, {1, 1 << 30, 1 << 30}, {1 << 30, 1 << 30, 1 << 30}, {1<<30 + 1, 1 << 30, 1 << 31}, {1<<30 - 1, 1 << 30, 1 << 30},
		{1 << 40, 1 << 30, 1 << 40}, {1<<40 - 1, 1 << 30, 1 << 40}, {1<<40 - 1<<30, 1 << 30, 1<<40 - 1<<30}, {1<<40 - 1<<30 + 1, 1 << 30, 1 << 40},
		{1<<32 - 1, 4096, 1 << 32}, {1<<32 + 1, 4096, 1<<32 + 4096},
	} {
		if got, e := buf.Up(c[0], c[1]); got != c[2] || e != api.OK {
			t.Error(c, got, e)
		}
	}
}

func TestUp(t *testing.T) {
	numbers := []int{}
	for n := range 300 {
		numbers = append(numbers, n)
	}
	for at := 9; at < 40; at++ {
		numbers = append(numbers, 1<<at-1, 1<<at, 1<<at+1, 1<<at+1<<(at-3)+5)
	}
	numbers = append(numbers, 1<<40-1, 1<<40)
	for _, n := range numbers {
		for at := 0; at <= 30; at++ {
			to := 1 << at
			want := n / to * to
			if want < n {
				want += to
			}
			if got, e := buf.Up(n, to); got != want || e != api.OK {
				t.Fatal(n, to, got, want, e)
			}
		}
	}
}

func TestUpRefused(t *testing.T) {
	good := []int{0, 1, 13, 1 << 20, 1 << 40}
	bad := []int{-1, -2, -8, -1 << 30, -1 << 62, math.MinInt, math.MinInt + 1, 1<<40 + 1, 1 << 41, 1 << 62, math.MaxInt - 1, math.MaxInt}
	aligns := []int{1, 2, 8, 4096, 1 << 30}
	notAligns := []int{0, -1, -2, -4, -1 << 30, 3, 5, 6, 7, 9, 12, 24, 1000, 1<<29 + 1, 1<<30 - 1, 1<<30 + 1, 1 << 31, 1 << 32, 1<<32 + 1, 1 << 40, 1 << 62, math.MinInt, math.MinInt + 1, math.MaxInt}
	refused := func(ns, tos []int) {
		for _, n := range ns {
			for _, to := range tos {
				if got, e := buf.Up(n, to); got != 0 || e != api.ErrPatch {
					t.Error(n, to, got, e)
				}
			}
		}
	}
	refused(good, notAligns)
	refused(bad, aligns)
	refused(bad, notAligns)
}

// P2.3

func TestTextByHand(t *testing.T) {
	for _, c := range []struct {
		b    string
		at   int
		want string
	}{
		{"ab\x00c", 0, "ab"}, {"ab\x00c", 1, "b"}, {"ab\x00c", 2, ""}, {"\x00", 0, ""}, {"\x00\x00", 1, ""},
		{"a\x00b\x00", 0, "a"}, {"a\x00b\x00", 2, "b"}, {"a\x00b\x00", 3, ""},
		{"\xff\xfe\x80\x01 \x00", 0, "\xff\xfe\x80\x01 "}, {"\x00.text\x00", 1, ".text"},
	} {
		if got, e := buf.Text([]byte(c.b), c.at); got != c.want || e != api.OK {
			t.Errorf("%q %d %q %v", c.b, c.at, got, e)
		}
	}
	long := strings.Repeat("x", 1<<16)
	if got, e := buf.Text([]byte(long+"\x00y\x00"), 0); got != long || e != api.OK {
		t.Error(len(got), e)
	}
}

func TestTextRefused(t *testing.T) {
	for _, c := range []struct {
		b  string
		at int
	}{
		{"", 0}, {"a", 0}, {"abc", 0}, {"abc", 2}, {"ab\x00c", 3}, {"ab\x00", 3}, {"ab\x00", 4}, {"ab\x00", -1}, {"\x00", 1}, {"\x00", -1},
	} {
		if got, e := buf.Text([]byte(c.b), c.at); got != "" || e != api.ErrBuf {
			t.Errorf("%q %d %q %v", c.b, c.at, got, e)
		}
	}
	for _, b := range [][]byte{nil, {}, {0}, {1, 0}, make([]byte, 40)} {
		for _, at := range append(farPlaces(), len(b), len(b)+1) {
			if got, e := buf.Text(b, at); got != "" || e != api.ErrBuf {
				t.Error(len(b), at, got, e)
			}
		}
	}
}

// TestTextSpareRoom: a byte 0 behind the bytes, in their spare room, ends no text.
func TestTextSpareRoom(t *testing.T) {
	all := []byte("abc\x00")
	if got, e := buf.Text(all[:3], 0); got != "" || e != api.ErrBuf {
		t.Error(got, e)
	}
}

func TestTextIsNotShared(t *testing.T) {
	b := []byte("abc\x00d")
	got, e := buf.Text(b, 0)
	if !bytes.Equal(b, []byte("abc\x00d")) {
		t.Error("changed", b)
	}
	overwrite(b)
	if got != "abc" || e != api.OK {
		t.Error(got, e)
	}
}

// Errors, P1 and P2

func TestErrorsAreThoseOfTheChapter(t *testing.T) {
	_, e1 := buf.Get(nil, 0, 1)
	_, e2 := buf.Put(nil, 0, 1, 0)
	_, e3 := buf.Append(nil, 0, 0)
	_, e4 := buf.Text(nil, 0)
	_, e5 := buf.Up(0, 0)
	if e1 != 21 || e2 != 21 || e3 != 21 || e4 != 21 || e5 != 25 {
		t.Error(e1, e2, e3, e4, e5)
	}
}

// TestAnyArguments: no call panics, and each answers the same when asked again.
func TestAnyArguments(t *testing.T) {
	numbers := append(append(farPlaces(), notSizes()...), 1, 2, 3, 7, 8, 1<<30, 1<<40)
	asked := func() ([]byte, []uint64) {
		var texts []byte
		var out []uint64
		for _, b := range [][]byte{nil, {0}, plenty(9), append(plenty(20), 0)} {
			for _, at := range numbers {
				s, e := buf.Text(b, at)
				texts = append(texts, s...)
				out = append(out, uint64(e))
				for _, n := range numbers {
					v, e1 := buf.Get(b, at, n)
					p, e2 := buf.Put(b, at, n, uint64(at))
					q, e3 := buf.Append(b, n, uint64(at))
					u, e4 := buf.Up(at, n)
					texts = append(append(texts, p...), q...)
					out = append(out, v, uint64(u), uint64(e1), uint64(e2), uint64(e3), uint64(e4))
				}
			}
		}
		return texts, out
	}
	texts, out := asked()
	texts2, out2 := asked()
	if !bytes.Equal(texts, texts2) || len(out) != len(out2) {
		t.Fatal("other bytes when asked again")
	}
	for n := range out {
		if out[n] != out2[n] {
			t.Fatal(n, out[n], out2[n])
		}
	}
}
