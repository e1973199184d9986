package expr_test

import (
	"math"
	"slices"
	"strconv"
	"testing"

	"dovetail/api"
	"dovetail/expr"
)

// P12.4

// evals asks for a sum's value, or for none.
func evals(t *testing.T, a api.Lin, names []string, vals []int, want int, ok bool) {
	t.Helper()
	x := roomy(a)
	n, v := append(slices.Clone(names), "a", "b"), append(slices.Clone(vals), 77, 78)
	names2, vals2 := slices.Clone(n), slices.Clone(v)
	got, is := expr.Eval(x, n[:len(names)], v[:len(vals)])
	if got != want || is != ok {
		t.Errorf("%.99v, %.99q %.99v: %d %v, not %d %v", a, names, vals, got, is, want, ok)
	}
	if !untouched(x, a) || !slices.Equal(n, names2) || !slices.Equal(v, vals2) {
		t.Error("changed", a, names, vals)
	}
}

func TestEval(t *testing.T) {
	abc := []string{"a", "b", "c"}
	evals(t, lin(0), nil, nil, 0, true)
	evals(t, lin(7), nil, nil, 7, true)
	evals(t, lin(-7), abc, []int{1, 2, 3}, -7, true)
	evals(t, lin(0, "1 a"), abc, []int{5, 6, 7}, 5, true)
	evals(t, lin(0, "1 b"), abc, []int{5, 6, 7}, 6, true)
	evals(t, lin(0, "1 c"), abc, []int{5, 6, 7}, 7, true)
	evals(t, lin(9, "2 a", "-3 c"), abc, []int{5, 6, 7}, 9+10-21, true)
	evals(t, lin(9, "2 a", "-3 c"), []string{"c", "", "a"}, []int{5, 6, 7}, 9+14-15, true)
	evals(t, lin(1, "2 a", "3 b", "4 c"), abc, []int{0, 0, 0}, 1, true)
	evals(t, lin(1, "3 x", "-1 y"), []string{"y", "x", "y"}, []int{10, 5, 0}, 6, true)
	evals(t, lin(1, "1 b"), abc, []int{1, 2}, 3, true)
	evals(t, lin(1, "1 a"), abc, []int{1, 2, 3, 4, 5}, 2, true)
	evals(t, many(16), many(16).Syms, []int{1, 2, 4, 8, 16, 32, 64, 128, 256, 512, 1024, 2048, 4096, 8192, 16384, 32768}, 65535, true)
	for _, s := range names() {
		evals(t, lin(1, "-2 "+s), append([]string{s + "1", "0", "", "é"}, names()...), append(make([]int, 4), slices.Repeat([]int{21}, len(names()))...), -41, true)
	}
}

func TestEvalFirstPlaceCounts(t *testing.T) {
	evals(t, lin(0, "1 a"), []string{"a", "a"}, []int{1, 2}, 1, true)
	evals(t, lin(0, "1 a"), []string{"b", "a", "b", "a", "a"}, []int{1, 2, 3, 4, 5}, 2, true)
	evals(t, lin(0, "1 a", "10 b"), []string{"b", "a", "b", "a"}, []int{1, 2, 3, 4}, 12, true)
	evals(t, lin(0, "1 a", "10 b"), []string{"b", "a", "b", "a"}, []int{1, 2}, 12, true)
	evals(t, lin(0, "1 a"), []string{"b", "a", "a"}, []int{1}, 0, false)
}

func TestEvalNone(t *testing.T) {
	abc := []string{"a", "b", "c"}
	evals(t, lin(5, "1 d"), abc, []int{1, 2, 3}, 0, false)
	evals(t, lin(5, "1 a", "1 d"), abc, []int{1, 2, 3}, 0, false)
	evals(t, lin(5, "1 A", "1 a"), abc, []int{1, 2, 3}, 0, false)
	evals(t, lin(5, "1 a"), nil, nil, 0, false)
	evals(t, lin(5, "1 a"), nil, []int{1}, 0, false)
	evals(t, lin(5, "1 a"), abc, nil, 0, false)
	evals(t, lin(5, "1 b"), abc, []int{1}, 0, false)
	evals(t, lin(5, "1 a", "1 c"), abc, []int{1, 2}, 0, false)
	evals(t, lin(5, "1 ab"), []string{"a", "abc", "ab ", "b", "aB"}, []int{1, 2, 3, 4, 5}, 0, false)
	for i := range 16 {
		evals(t, many(16), slices.Delete(many(16).Syms, i, i+1), make([]int, 16), 0, false)
		evals(t, many(16), many(16).Syms, make([]int, i), 0, false)
	}
	for _, a := range abnormal() {
		all := append(slices.Clone(a.Syms), "a", "b", "c")
		evals(t, a, all, slices.Repeat([]int{1}, len(all)), 0, false)
	}
}

func TestEvalWrapsRound(t *testing.T) {
	for _, m := range edges() {
		for _, n := range edges() {
			evals(t, lin(m, "1 a"), []string{"a"}, []int{n}, m+n, true)
			if m != 0 {
				evals(t, lin(n, strconv.Itoa(m)+" a", "-1 b"), []string{"b", "a"}, []int{m, n}, n+m*n-m, true)
			}
		}
	}
	evals(t, lin(0, "9223372036854775807 a", "-9223372036854775808 b"), []string{"a", "b"}, []int{2, 3}, math.MaxInt-1, true)
}
