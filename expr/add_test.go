package expr_test

import (
	"math"
	"testing"

	"dovetail/api"
	"dovetail/expr"
)

// P12.2

// adds asks that two sums, in either order, have a sum.
func adds(t *testing.T, a, b, want api.Lin) {
	t.Helper()
	for _, l := range [][2]api.Lin{{a, b}, {b, a}} {
		x, y := roomy(l[0]), roomy(l[1])
		got, e := expr.Add(x, y)
		if !same(got, want) || e != api.OK || !untouched(x, l[0]) || !untouched(y, l[1]) {
			t.Errorf("%.99v: %.99v %v", l, got, e)
		}
	}
}

// addRefuses asks that two sums, in either order, have none.
func addRefuses(t *testing.T, a, b api.Lin, want api.Errno) {
	t.Helper()
	for _, l := range [][2]api.Lin{{a, b}, {b, a}} {
		x, y := roomy(l[0]), roomy(l[1])
		got, e := expr.Add(x, y)
		if !none(got) || e != want || !untouched(x, l[0]) || !untouched(y, l[1]) {
			t.Errorf("%.99v: %.99v %v", l, got, e)
		}
	}
}

func TestAdd(t *testing.T) {
	adds(t, lin(0), lin(0), lin(0))
	adds(t, lin(3), lin(-5), lin(-2))
	adds(t, lin(3, "1 a"), lin(0), lin(3, "1 a"))
	adds(t, lin(0, "1 a"), lin(0, "1 b"), lin(0, "1 a", "1 b"))
	adds(t, lin(1, "1 a", "2 c"), lin(2, "3 b", "4 d"), lin(3, "1 a", "3 b", "2 c", "4 d"))
	adds(t, lin(1, "1 a", "2 b"), lin(2, "3 b", "4 c"), lin(3, "1 a", "5 b", "4 c"))
	adds(t, lin(1, "1 a", "2 b"), lin(-1, "-1 a", "-2 b"), lin(0))
	adds(t, lin(0, "1 a", "2 b", "3 c"), lin(0, "-2 b"), lin(0, "1 a", "3 c"))
	adds(t, lin(0, "5 a"), lin(0, "-7 a"), lin(0, "-2 a"))
	for i, s := range names() {
		for _, r := range names()[i+1:] {
			adds(t, lin(0, "-1 "+s), lin(0, "2 "+r), lin(0, "-1 "+s, "2 "+r))
		}
		adds(t, lin(0, "-1 "+s), lin(1, "2 "+s), lin(1, "1 "+s))
	}
}

func TestAddWrapsRound(t *testing.T) {
	for _, m := range edges() {
		for _, n := range edges() {
			want := api.Lin{Off: m + n}
			adds(t, lin(m), lin(n), want)
			if m == 0 || n == 0 {
				continue
			}
			if m+n != 0 {
				want = api.Lin{Syms: []string{"a"}, Times: []int{m + n}, Off: m + n}
			}
			one := func(n int) api.Lin { return api.Lin{Syms: []string{"a"}, Times: []int{n}, Off: n} }
			adds(t, one(m), one(n), want)
		}
	}
	least := api.Lin{Syms: []string{"a"}, Times: []int{math.MinInt}, Off: math.MinInt}
	adds(t, least, least, lin(0))
}

func TestAddMany(t *testing.T) {
	most := many(16)
	adds(t, most, lin(5), api.Lin{Syms: most.Syms, Times: most.Times, Off: 5})
	adds(t, most, most, expr.Times(most, 2))
	adds(t, most, expr.Times(most, -1), lin(0))
	adds(t, many(8), expr.Times(most, 2), more(most, 8))
	adds(t, most, lin(0, "-1 s16", "1 t"), api.Lin{Syms: append(many(15).Syms, "t"), Times: most.Times})
	adds(t, most, lin(0, "1 a", "-1 s01"), api.Lin{Syms: append([]string{"a"}, most.Syms[1:]...), Times: most.Times})
	for _, s := range []string{"a", "s00", "s011", "s17", "t", "A"} {
		addRefuses(t, most, lin(0, "1 "+s), api.ErrExprMany)
		addRefuses(t, most, lin(0, "-1 "+s), api.ErrExprMany)
	}
	addRefuses(t, most, lin(0, "-1 s16", "1 t", "1 u"), api.ErrExprMany)
	var others []string
	for i := range 16 {
		others = append(others, "1 t"+numbered(i))
		b := lin(0, others...)
		if i+1+10 <= 16 {
			adds(t, many(10), b, api.Lin{Syms: append(many(10).Syms, b.Syms...), Times: many(11 + i).Times})
		} else {
			addRefuses(t, many(10), b, api.ErrExprMany)
		}
		addRefuses(t, most, b, api.ErrExprMany)
	}
}

// more is a sum with another's symbols, of which the first n count three times, the others twice.
func more(a api.Lin, n int) api.Lin {
	out := api.Lin{Syms: a.Syms}
	for i := range a.Syms {
		times := 2
		if i < n {
			times = 3
		}
		out.Times = append(out.Times, times)
	}
	return out
}

func TestAddRefuses(t *testing.T) {
	for _, a := range abnormal() {
		for _, b := range []api.Lin{{}, lin(7), lin(1, "1 a"), lin(0, "-1 a", "-1 b"), many(16), a} {
			addRefuses(t, a, b, api.ErrExpr)
		}
		for _, b := range abnormal() {
			addRefuses(t, a, b, api.ErrExpr)
		}
	}
}

func TestTimes(t *testing.T) {
	for _, c := range []struct {
		a    api.Lin
		n    int
		want api.Lin
	}{
		{lin(0), 5, lin(0)},
		{lin(3), -5, lin(-15)},
		{lin(3, "1 a", "-2 b"), 1, lin(3, "1 a", "-2 b")},
		{lin(3, "1 a", "-2 b"), -1, lin(-3, "-1 a", "2 b")},
		{lin(3, "1 a", "-2 b"), 4, lin(12, "4 a", "-8 b")},
		{lin(3, "1 a", "-2 b"), 0, lin(0)},
		{many(16), 0, lin(0)},
		{many(16), 1, many(16)},
		{many(16), 3, more(many(16), 16)},
		{lin(6, "4 a", "3 b"), 1 << 62, api.Lin{Syms: []string{"b"}, Times: []int{-1 << 62}, Off: math.MinInt}},
		{lin(1, "1 a"), math.MinInt, api.Lin{Syms: []string{"a"}, Times: []int{math.MinInt}, Off: math.MinInt}},
		{lin(1, "1 a", "2 b", "3 c"), math.MinInt, api.Lin{Syms: []string{"a", "c"}, Times: []int{math.MinInt, math.MinInt}, Off: math.MinInt}},
	} {
		x := roomy(c.a)
		if got := expr.Times(x, c.n); !same(got, c.want) || !untouched(x, c.a) {
			t.Error(c, got)
		}
	}
}

func TestTimesWrapsRound(t *testing.T) {
	for _, m := range edges() {
		for _, n := range edges() {
			if got := expr.Times(lin(m), n); !same(got, lin(m*n)) {
				t.Error(m, n, got)
			}
			if m == 0 {
				continue
			}
			want := lin(-1 * n)
			if m*n != 0 {
				want = api.Lin{Syms: []string{"a"}, Times: []int{m * n}, Off: -n}
			}
			if got := expr.Times(api.Lin{Syms: []string{"a"}, Times: []int{m}, Off: -1}, n); !same(got, want) {
				t.Error(m, n, got)
			}
		}
	}
}

func TestTimesRefuses(t *testing.T) {
	for _, a := range abnormal() {
		for _, n := range edges() {
			x := roomy(a)
			if got := expr.Times(x, n); !none(got) || !untouched(x, a) {
				t.Error(a, n, got)
			}
		}
	}
}
