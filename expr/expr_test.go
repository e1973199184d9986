package expr_test

import (
	"math"
	"reflect"
	"slices"
	"strconv"
	"strings"
	"testing"

	"dovetail/api"
	"dovetail/expr"
)

// lin is a sum of an Off and of symbols, told as "3 b".
func lin(off int, syms ...string) api.Lin {
	a := api.Lin{Off: off}
	for _, s := range syms {
		times, sym, _ := strings.Cut(s, " ")
		n, err := strconv.Atoi(times)
		if err != nil {
			panic(s)
		}
		a.Syms, a.Times = append(a.Syms, sym), append(a.Times, n)
	}
	return a
}

// many is a sum of n symbols, each of which counts once, with names in order from s01 on.
func many(n int) api.Lin {
	var syms []string
	for i := range n {
		syms = append(syms, "1 "+numbered(i))
	}
	return lin(0, syms...)
}

// numbered is the name of the symbol i of many.
func numbered(i int) string { return "s" + strconv.Itoa(101 + i)[1:] }

// same says whether sums are equal, a nil list being an empty one.
func same(a, b api.Lin) bool {
	return slices.Equal(a.Syms, b.Syms) && slices.Equal(a.Times, b.Times) && a.Off == b.Off
}

// none says whether a sum is the zero Lin.
func none(a api.Lin) bool { return same(a, api.Lin{}) }

// edges are numbers at the ends of what 64 bits and 32 bits have.
func edges() []int {
	return []int{math.MinInt, math.MinInt + 1, math.MinInt32 - 1, math.MinInt32, -3, -2, -1, 0, 1, 2, 3, math.MaxInt32, math.MaxInt32 + 1, math.MaxUint32, 1 << 32, 1 << 62, math.MaxInt - 1, math.MaxInt}
}

// names are names of each kind of byte, in order.
func names() []string {
	return []string{"$", "$0", ".", "...", ".L0", "A", "A_", "Z", "Z9", "_", "_$.aZ09", "__", "a", "aa", "ab", "x0", "z", "z0x1F", strings.Repeat("zz", 5000)}
}

// notNames are texts that aren't names.
func notNames() []string {
	return []string{"", "0", "7a", "0x1", "9.", " a", "a ", "a b", "a\x00", "\x00", "a-b", "-a", "a@", "@a", "a[", "[a", "`", "a`", "{", "a{", "/", "a/", "a:", ":", "a*1", "(a)", "ä", "aä", "a\xff", "\xc3", "a\n", "\ta", "%x", "a#"}
}

// abnormal are sums that aren't normal.
func abnormal() []api.Lin {
	l := []api.Lin{
		{Syms: []string{"a"}},
		{Times: []int{1}},
		{Times: []int{1}, Off: 9},
		{Syms: []string{"a"}, Times: []int{1, 1}},
		{Syms: []string{"a", "b"}, Times: []int{1}},
		{Syms: []string{"a"}, Times: []int{0}},
		{Syms: []string{"a", "b"}, Times: []int{1, 0}, Off: 3},
		{Syms: []string{"a", "b"}, Times: []int{0, 1}},
		{Syms: []string{"a", "a"}, Times: []int{1, 1}},
		{Syms: []string{"a", "a"}, Times: []int{1, -1}},
		{Syms: []string{"b", "a"}, Times: []int{1, 1}},
		{Syms: []string{"a", "B"}, Times: []int{1, 1}},
		{Syms: []string{"aa", "a"}, Times: []int{1, 1}},
		{Syms: []string{"a", "c", "b"}, Times: []int{1, 1, 1}},
		{Syms: []string{"a", "b", "c", "c"}, Times: []int{1, 1, 1, 1}},
		many(api.MaxSyms + 1),
		many(1000),
	}
	for _, s := range notNames() {
		l = append(l, api.Lin{Syms: []string{s}, Times: []int{1}, Off: 1})
		two := []string{"M", s}
		slices.Sort(two)
		l = append(l, api.Lin{Syms: two, Times: []int{2, 2}})
	}
	return l
}

// room is the spare room of roomy lists: what stands there is given below.
const room = 3

// roomy is a copy of a sum with spare room behind its lists.
func roomy(a api.Lin) api.Lin {
	syms := append(slices.Clone(a.Syms), "spare", "0", "")
	times := append(slices.Clone(a.Times), 7, 0, -7)
	return api.Lin{Syms: syms[:len(a.Syms)], Times: times[:len(a.Times)], Off: a.Off}
}

// untouched says whether a roomy sum still is the one it was made of, with its spare room.
func untouched(got, a api.Lin) bool {
	want := roomy(a)
	full := func(l api.Lin) api.Lin {
		return api.Lin{Syms: l.Syms[:len(l.Syms)+room], Times: l.Times[:len(l.Times)+room], Off: l.Off}
	}
	return reflect.DeepEqual(full(got), full(want))
}

// spoil overwrites a sum's lists and their spare room.
func spoil(a api.Lin) {
	for i := range a.Syms[:cap(a.Syms)] {
		a.Syms[:cap(a.Syms)][i] = "spoilt"
	}
	for i := range a.Times[:cap(a.Times)] {
		a.Times[:cap(a.Times)][i] = 12345
	}
}

// normal says whether a sum is normal, by a second reading.
func normal(a api.Lin) bool {
	if len(a.Syms) != len(a.Times) || len(a.Syms) > 16 || slices.Contains(a.Times, 0) {
		return false
	}
	sorted := slices.Clone(a.Syms)
	slices.Sort(sorted)
	return slices.Equal(slices.Compact(sorted), a.Syms) && !slices.ContainsFunc(a.Syms, func(s string) bool { return !isName.MatchString(s) })
}

func TestHelpers(t *testing.T) {
	for _, a := range abnormal() {
		if normal(a) {
			t.Error("normal", a)
		}
	}
	for _, a := range []api.Lin{{}, lin(3), lin(-1, "2 a"), many(16), lin(0, "-1 B", "3 a", "9 b")} {
		if !normal(a) || !untouched(roomy(a), a) {
			t.Error(a)
		}
	}
}

// What the calls answer is normal, new memory, and hangs on nothing else.
func TestAnswersShareNothing(t *testing.T) {
	a, b := lin(1, "2 a", "3 b", "4 c"), lin(5, "6 b", "7 d")
	calls := map[string]func(a, b api.Lin) api.Lin{
		"add":    func(a, b api.Lin) api.Lin { s, _ := expr.Add(a, b); return s },
		"none":   func(a, b api.Lin) api.Lin { s, _ := expr.Add(a, api.Lin{}); return s },
		"second": func(a, b api.Lin) api.Lin { s, _ := expr.Add(api.Lin{}, b); return s },
		"itself": func(a, b api.Lin) api.Lin { s, _ := expr.Add(a, a); return s },
		"times":  func(a, b api.Lin) api.Lin { return expr.Times(a, 3) },
		"once":   func(a, b api.Lin) api.Lin { return expr.Times(a, 1) },
		"parse":  func(a, b api.Lin) api.Lin { s, _, _ := expr.Parse("a+b*3-9"); return s },
	}
	for name, call := range calls {
		x, y := roomy(a), roomy(b)
		first, second := call(x, y), call(x, y)
		if !untouched(x, a) || !untouched(y, b) || !same(first, second) || !normal(first) {
			t.Error(name, first, second, x, y)
		}
		spoil(first)
		if !same(second, call(x, y)) || !untouched(x, a) || !untouched(y, b) {
			t.Error(name, "shares with an answer or an argument")
		}
		third := call(x, y)
		spoil(x)
		spoil(y)
		if !same(second, third) {
			t.Error(name, "keeps an argument")
		}
	}
}

// The examples of README.md and of the chapter.
func TestExamples(t *testing.T) {
	a, at, e := expr.Parse("2*(a-b)+3 - a")
	if !same(a, lin(3, "1 a", "-2 b")) || at != 0 || e != api.OK {
		t.Error(a, at, e)
	}
	a, e = expr.Add(a, expr.Times(a, 2))
	if !same(a, lin(9, "3 a", "-6 b")) || e != api.OK {
		t.Error(a, e)
	}
	if s, e := expr.Print(a); s != "3*a+-6*b+9" || e != api.OK {
		t.Error(s, e)
	}
	if v, ok := expr.Eval(a, []string{"b", "a"}, []int{10, 25}); v != 24 || !ok {
		t.Error(v, ok)
	}
	a, at, e = expr.Parse("a*b")
	if !none(a) || at != 1 || e != api.ErrExpr {
		t.Error(a, at, e)
	}
}
