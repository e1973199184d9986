package sexp_test

import (
	"math"
	"reflect"
	"regexp"
	"strconv"
	"strings"
	"testing"

	"dovetail/api"
	"dovetail/sexp"
)

func word(s string) api.Tree { return api.Tree{Kind: api.TreeWord, Word: s} }

func num(n int) api.Tree { return api.Tree{Kind: api.TreeNum, Num: n} }

func text(s string) api.Tree { return api.Tree{Kind: api.TreeText, Word: s} }

func list(kids ...api.Tree) api.Tree { return api.Tree{Kind: api.TreeList, Kids: kids} }

func trees(l ...api.Tree) []api.Tree { return l }

// same says whether trees are equal, a nil list being an empty one.
func same(a, b []api.Tree) bool {
	if len(a) != len(b) {
		return false
	}
	for n := range a {
		if a[n].Kind != b[n].Kind || a[n].Word != b[n].Word || a[n].Num != b[n].Num || !same(a[n].Kids, b[n].Kids) {
			return false
		}
	}
	return true
}

// clone is trees that share nothing with others.
func clone(l []api.Tree) []api.Tree {
	var out []api.Tree
	for _, t := range l {
		t.Kids = clone(t.Kids)
		out = append(out, t)
	}
	return out
}

// within is t in as many lists as deep says.
func within(deep int, t api.Tree) api.Tree {
	for range deep {
		t = list(t)
	}
	return t
}

// wordOf has n bytes.
func wordOf(n int) string { return strings.Repeat("w", n) }

func short(s string) string {
	if len(s) > 60 {
		s = s[:60] + ".."
	}
	return strconv.Quote(s)
}

// parses says that a text has some trees.
func parses(t *testing.T, s string, want []api.Tree) {
	t.Helper()
	l, at, e := sexp.Parse(s)
	if !same(l, want) || at != 0 || e != api.OK {
		t.Errorf("%s: %.300v %d %d", short(s), l, at, e)
	}
}

// refuses says that a text is given up at a place with an error.
func refuses(t *testing.T, s string, place int, want api.Errno) {
	t.Helper()
	l, at, e := sexp.Parse(s)
	if len(l) != 0 || at != place || e != want {
		t.Errorf("%s: %.300v %d %d, not %d %d", short(s), l, at, e, place, want)
	}
}

// prints says that trees have a text, and that the text has them.
func prints(t *testing.T, l []api.Tree, want string) {
	t.Helper()
	s, e := sexp.Print(l)
	if s != want || e != api.OK {
		t.Errorf("%.300v: %s %d, not %s", l, short(s), e, short(want))
	}
	parses(t, want, l)
}

// unprinted says that trees have no text.
func unprinted(t *testing.T, l []api.Tree, want api.Errno) {
	t.Helper()
	if s, e := sexp.Print(l); s != "" || e != want {
		t.Errorf("%.300v: %s %d, not %d", l, short(s), e, want)
	}
}

// P3.1

func TestParseByHand(t *testing.T) {
	for _, c := range []struct {
		s    string
		want []api.Tree
	}{
		{"", nil},
		{" \n \n", nil},
		{"; only a remark", nil},
		{";\n;;\n ; ( \" 007\n", nil},
		{"a", trees(word("a"))},
		{"a b (c)", trees(word("a"), word("b"), list(word("c")))},
		{`(a "b c" -7) ; x`, trees(list(word("a"), text("b c"), num(-7)))},
		{"()", trees(list())},
		{"( \n )", trees(list())},
		{"(;)\n)", trees(list())},
		{"()()", trees(list(), list())},
		{"(()(()))", trees(list(list(), list(list())))},
		{"(a(b c)d)e", trees(list(word("a"), list(word("b"), word("c")), word("d")), word("e"))},
		{"a\nb\n\nc", trees(word("a"), word("b"), word("c"))},
		{"(a\n  b)", trees(list(word("a"), word("b")))},
	} {
		parses(t, c.s, c.want)
	}
}

// TestParseWithoutBlanks: tokens end where another kind begins.
func TestParseWithoutBlanks(t *testing.T) {
	for _, c := range []struct {
		s    string
		want []api.Tree
	}{
		{`a"b"c`, trees(word("a"), text("b"), word("c"))},
		{`"a""b"`, trees(text("a"), text("b"))},
		{`7"7"-7`, trees(num(7), text("7"), num(-7))},
		{`7(8)9`, trees(num(7), list(num(8)), num(9))},
		{"a;b\nc", trees(word("a"), word("c"))},
		{"7;8\n9", trees(num(7), num(9))},
		{`"a";b`, trees(text("a"))},
		{"(a;)\n)", trees(list(word("a")))},
	} {
		parses(t, c.s, c.want)
	}
}

func TestParseNumbers(t *testing.T) {
	for _, n := range []int{0, 1, -1, 7, -7, 9, 10, -10, 42, 100, 1000000, 1<<31 - 1, 1 << 31, -1 << 31, 1 << 53, 123456789012345678, 100000000000000000, 999999999999999999, -100000000000000000, -999999999999999999} {
		s := strconv.Itoa(n)
		parses(t, s, trees(num(n)))
		parses(t, "("+s+" "+s+")", trees(list(num(n), num(n))))
	}
	for _, s := range []string{
		"-", "--", "--1", "-0", "-00", "-01", "-007", "00", "01", "007", "0x1", "0a", "7a", "7-", "1-2", "1+2", "1_0", "1.0", "1e3", "-a", "->", "-+1", "0-", "12]",
		"1000000000000000000", "-1000000000000000000", "9223372036854775807", "-9223372036854775808", "9223372036854775808", "18446744073709551617", "000000000000000001", "0000000000000000000", "99999999999999999999999999999999999999999", strings.Repeat("1", 1000), strings.Repeat("0", 1000),
	} {
		refuses(t, s, 0, api.ErrSexp)
		refuses(t, "  ("+s+")", 3, api.ErrSexp)
		refuses(t, "(a\n"+s+" b)", 3, api.ErrSexp)
	}
}

func TestParseWords(t *testing.T) {
	for _, s := range []string{"+", "+5", "+007", "a7", "a-7", ".000000", "t[9:0]", "_0", "x'", "#1", "!", "~", "&", "*", ",", "/", ":", "<", "`", "\\", "{}", "none", wordOf(1000)} {
		parses(t, s, trees(word(s)))
		parses(t, "("+s+")", trees(list(word(s))))
	}
}

// TestParseEachByte: each byte alone, at the beginning, within a run, within a text, within a remark.
func TestParseEachByte(t *testing.T) {
	for n := range 256 {
		c := string([]byte{byte(n)})
		printed := n >= 32 && n <= 126
		if printed && !strings.Contains(` ()";-0123456789`, c) {
			parses(t, c, trees(word(c)))
			parses(t, "a"+c+"b", trees(word("a"+c+"b")))
		}
		if !printed && n != '\n' {
			refuses(t, c, 0, api.ErrSexp)
			refuses(t, "a "+c, 2, api.ErrSexp)
			refuses(t, "a"+c+"b", 1, api.ErrSexp)
			refuses(t, "7"+c, 1, api.ErrSexp)
			refuses(t, "(ab"+c+")", 3, api.ErrSexp)
			refuses(t, `"ab`+c+`c"`, 3, api.ErrSexp)
			refuses(t, `a "ab`+c+"\n", 5, api.ErrSexp)
		}
		if printed && n != '"' {
			parses(t, `"a`+c+`b"`, trees(text("a"+c+"b")))
			parses(t, `"`+c+`"`, trees(text(c)))
		}
		if n != '\n' {
			parses(t, "a ;"+c+" )\nb", trees(word("a"), word("b")))
			parses(t, "a;"+c, trees(word("a")))
		}
	}
}

func TestParseTexts(t *testing.T) {
	for _, s := range []string{"", " ", "  a  ", ";", "a ; b", "a ; ", "(", ")", "()", "007", "-", "'", "\\", "\\n", "!#$%&'()*+,-./:;<=>?@[\\]^_`{|}~", wordOf(1000)} {
		parses(t, `"`+s+`"`, trees(text(s)))
		parses(t, `(a "`+s+`")`, trees(list(word("a"), text(s))))
	}
	for _, c := range []struct {
		s  string
		at int
	}{
		{`"`, 0}, {`"a`, 0}, {` "a`, 1}, {"\"\n\"", 0}, {"\"a\nb\"", 0}, {"\"a\" \"b\n", 4}, {`"""`, 2}, {`a"`, 1}, {`7"`, 1}, {`("a)`, 1}, {"(\"a\n\")", 1}, {"\"a;\n", 0}, {`"a ; "b"`, 7},
	} {
		refuses(t, c.s, c.at, api.ErrSexp)
	}
	// A byte that is none counts ahead of the text's not being closed, but only up to its line's end.
	for _, c := range []struct {
		s  string
		at int
	}{
		{"\"a\x01", 2}, {"\"\x7f", 1}, {"\"a\x80\n", 2}, {"\"\t\"", 1}, {"\"a\rb\"", 2}, {"\"a\x01\x02\"", 2}, {"\"a\n\x01", 0}, {"\"a\n\x01\"", 0}, {"\"a\"\x01", 3}, {"\"é\"", 1},
	} {
		refuses(t, c.s, c.at, api.ErrSexp)
	}
}

func TestParseLists(t *testing.T) {
	for _, c := range []struct {
		s  string
		at int
	}{
		{"(", 1}, {"((", 2}, {"(a", 2}, {"(a ", 3}, {"(a ; b", 6}, {"(a ; )", 6}, {"(a\n\n", 4}, {"((a)", 4}, {"a (b (c) d", 10},
		{")", 0}, {"a )", 2}, {"a)", 1}, {"())", 2}, {"(a))(", 3}, {" ; (\n)", 5}, {`"(")`, 3}, {")(", 0},
	} {
		refuses(t, c.s, c.at, api.ErrSexp)
	}
}

// TestParseFirstFault: of several faults the first token's counts; a list that is open is known at the end alone.
func TestParseFirstFault(t *testing.T) {
	for _, c := range []struct {
		s  string
		at int
	}{
		{"a 007 \x01", 2}, {"a \x01 007", 2}, {"007 )", 0}, {") 007", 0}, {"(a 007", 3}, {"(a \x01", 3}, {"(a \"b", 3}, {"((a) b)) \"", 7}, {"\"a\n 007", 0}, {"-0 -0", 0}, {"\x01\x02", 0}, {"007\x01", 0}, {"7\x01", 1}, {"a\x01)", 1}, {"007\"a", 0}, {"(-", 1}, {"a \"b\x01 007", 4},
	} {
		refuses(t, c.s, c.at, api.ErrSexp)
	}
}

func TestParseTooLong(t *testing.T) {
	const most = api.MaxIsaText
	parses(t, wordOf(most), trees(word(wordOf(most))))
	parses(t, `"`+wordOf(most-2)+`"`, trees(text(wordOf(most-2))))
	parses(t, strings.Repeat(" ", most-1)+"a", trees(word("a")))
	parses(t, ";"+strings.Repeat("\x00", most-1), nil)
	refuses(t, "("+wordOf(most-1), most, api.ErrSexp)
	refuses(t, strings.Repeat(" ", most-1)+")", most-1, api.ErrSexp)
	refuses(t, strings.Repeat("1", most), 0, api.ErrSexp)
	for _, s := range []string{wordOf(most + 1), strings.Repeat(" ", most+1), strings.Repeat("\n", 2*most), string(make([]byte, most+1)), "a )" + strings.Repeat(" ", most), "(" + wordOf(most), strings.Repeat("(", most+1), "a 007" + wordOf(most), " \"" + wordOf(most)} {
		refuses(t, s, 0, api.ErrSexpMany)
	}
}

func TestParseTooManyTrees(t *testing.T) {
	const most = api.MaxNodes
	flat := strings.Repeat("a ", most)
	parses(t, flat, flatTrees(most, word("a")))
	parses(t, strings.Repeat("()", most), flatTrees(most, list()))
	parses(t, "("+flat[2:]+")", trees(list(flatTrees(most-1, word("a"))...)))
	parses(t, strings.Repeat("(7)", most/2), flatTrees(most/2, list(num(7))))
	parses(t, flat+"; a", flatTrees(most, word("a")))
	for _, c := range []struct {
		s  string
		at int
		e  api.Errno
	}{
		{flat + "a", 2 * most, api.ErrSexpMany},
		{flat + "7", 2 * most, api.ErrSexpMany},
		{flat + "  \"a\"", 2*most + 2, api.ErrSexpMany},
		{flat + "()", 2 * most, api.ErrSexpMany},
		{flat + "(", 2 * most, api.ErrSexpMany},
		{flat + "a a 007", 2 * most, api.ErrSexpMany},
		{"(" + flat + ")", 2*most - 1, api.ErrSexpMany},
		{"(" + flat, 2*most - 1, api.ErrSexpMany},
		{"(" + flat[2:], 2*most - 1, api.ErrSexp},
		{strings.Repeat("()", most) + "()", 2 * most, api.ErrSexpMany},
		{strings.Repeat("(7)", most/2) + "(7)", 3 * most / 2, api.ErrSexpMany},
		{strings.Repeat("(7 7)", most/3) + "(7)", 5*(most/3) + 1, api.ErrSexpMany},
		{flat + ")", 2 * most, api.ErrSexp},
		{flat + "007", 2 * most, api.ErrSexp},
		{flat + "\x01", 2 * most, api.ErrSexp},
		{flat + "\"a", 2 * most, api.ErrSexp},
		{flat + "\"a\x01\"", 2*most + 2, api.ErrSexp},
		{flat + "a 007", 2 * most, api.ErrSexpMany},
		{"007 " + flat, 0, api.ErrSexp},
	} {
		refuses(t, c.s, c.at, c.e)
	}
}

func flatTrees(n int, t api.Tree) []api.Tree {
	out := make([]api.Tree, n)
	for i := range out {
		out[i] = t
	}
	return out
}

func TestParseTooDeep(t *testing.T) {
	const most = api.MaxDepth
	open, shut := strings.Repeat("(", most), strings.Repeat(")", most)
	deep := within(most, word("a"))
	parses(t, open+"a"+shut, trees(deep))
	parses(t, open+shut, trees(within(most-1, list())))
	parses(t, open+"a"+shut+" "+open+"a"+shut, trees(deep, deep))
	parses(t, open+")()a"+shut[1:], trees(within(most-2, list(list(), list(), word("a")))))
	for _, c := range []struct {
		s  string
		at int
		e  api.Errno
	}{
		{open + "()" + shut, most, api.ErrSexpMany},
		{open + "(" + shut + ")", most, api.ErrSexpMany},
		{open + "(", most, api.ErrSexpMany},
		{open + " a (", most + 3, api.ErrSexpMany},
		{open + "(007", most, api.ErrSexpMany},
		{"a " + open + shut + "(" + open + shut + ")", 2 + 3*most, api.ErrSexpMany},
		{strings.Repeat("(", 100000), most, api.ErrSexpMany},
		{open, most, api.ErrSexp},
		{open + "007(", most, api.ErrSexp},
		{open + shut + ")", 2 * most, api.ErrSexp},
	} {
		refuses(t, c.s, c.at, c.e)
	}
	// The list above MaxNodes and above MaxDepth at once.
	flat := strings.Repeat("a ", api.MaxNodes-most)
	refuses(t, flat+open+"()"+shut, len(flat)+most, api.ErrSexpMany)
}

// TestParseSharesNothing: each list of an answer has its own memory, with its spare room.
func TestParseSharesNothing(t *testing.T) {
	s := "(a (b c d) () (e) (f g h i j) (k (l m n))) o (p q r)"
	l, _, e := sexp.Parse(s)
	want := clone(l)
	var lists [][]api.Tree
	var collect func(l []api.Tree)
	collect = func(l []api.Tree) {
		lists = append(lists, l)
		for _, t := range l {
			collect(t.Kids)
		}
	}
	collect(l)
	if len(lists) < 20 || e != api.OK {
		t.Fatal(len(lists), e)
	}
	for n, a := range lists {
		for _, other := range lists[n+1:] {
			if touch(a, other) {
				t.Fatal("shared by", a, other)
			}
		}
	}
	other, _, _ := sexp.Parse(s)
	wipe(other)
	if !same(l, want) {
		t.Error("shared by two answers", l)
	}
}

// touch says whether two lists share memory, spare room included.
func touch(a, b []api.Tree) bool {
	a, b = a[:cap(a)], b[:cap(b)]
	for i := range a {
		for k := range b {
			if &a[i] == &b[k] {
				return true
			}
		}
	}
	return false
}

// wipe writes over all trees, and their spare room.
func wipe(l []api.Tree) {
	for _, t := range l {
		wipe(t.Kids)
	}
	l = l[:cap(l)]
	for n := range l {
		l[n] = api.Tree{Kind: 99, Word: "wiped", Num: 99}
	}
}

// P3.2

func TestPrintByHand(t *testing.T) {
	for _, c := range []struct {
		l    []api.Tree
		want string
	}{
		{nil, ""},
		{trees(), ""},
		{trees(word("a")), "a\n"},
		{trees(list()), "()\n"},
		{trees(api.Tree{Kind: api.TreeList, Kids: trees()}), "()\n"},
		{trees(api.Tree{Kind: api.TreeWord, Word: "a", Kids: trees()}), "a\n"},
		{trees(num(0), num(-1), num(999999999999999999), num(-999999999999999999)), "0\n-1\n999999999999999999\n-999999999999999999\n"},
		{trees(text(""), text(" "), text("b ; (c)")), "\"\"\n\" \"\n\"b ; (c)\"\n"},
		{trees(list(word("a"), text("b c"), num(-7), list()), word("d")), "(a \"b c\" -7 ())\nd\n"},
		{trees(list(list(list()), list(word("a"), list(num(1), num(2)))), list()), "((()) (a (1 2)))\n()\n"},
		{trees(list(text("a"), text("b"))), "(\"a\" \"b\")\n"},
	} {
		prints(t, c.l, c.want)
	}
}

// TestPrintEachByte: which bytes words and texts may have.
func TestPrintEachByte(t *testing.T) {
	for n := range 256 {
		c := string([]byte{byte(n)})
		if n >= 33 && n <= 126 && !strings.Contains(`()";`, c) {
			prints(t, trees(word("a"+c)), "a"+c+"\n")
			if strings.Contains("-0123456789", c) {
				unprinted(t, trees(word(c)), api.ErrSexp)
				unprinted(t, trees(word(c+"a")), api.ErrSexp)
			} else {
				prints(t, trees(word(c)), c+"\n")
				prints(t, trees(word(c+"7-")), c+"7-\n")
			}
		} else {
			for _, s := range []string{c, "a" + c, c + "a", "a" + c + "b"} {
				unprinted(t, trees(word(s)), api.ErrSexp)
			}
		}
		for _, s := range []string{c, "a" + c, c + "a", "a" + c + "b"} {
			if n >= 32 && n <= 126 && n != '"' {
				prints(t, trees(text(s)), `"`+s+"\"\n")
			} else {
				unprinted(t, trees(text(s)), api.ErrSexp)
			}
		}
	}
}

func TestPrintUnsound(t *testing.T) {
	kids := trees(word("k"))
	unsound := trees(
		api.Tree{},
		word(""), word("7"), word("-"), word("-a"), word("007"), word("a b"), word("a\n"), word("(a)"), word("a)"), word("a;"), word(`a"`), word("é"),
		text("\n"), text("a\tb"), text(`a"b`), text(`"`), text("\x00"), text("\x7f"), text("\xff"), text("é"),
		num(1000000000000000000), num(-1000000000000000000), num(math.MaxInt), num(math.MinInt), num(math.MinInt+1),
		api.Tree{Kind: api.TreeWord, Word: "a", Num: 1},
		api.Tree{Kind: api.TreeWord, Word: "a", Num: math.MinInt},
		api.Tree{Kind: api.TreeWord, Word: "a", Kids: kids},
		api.Tree{Kind: api.TreeNum, Num: 7, Word: "7"},
		api.Tree{Kind: api.TreeNum, Word: "a"},
		api.Tree{Kind: api.TreeNum, Num: 7, Kids: kids},
		api.Tree{Kind: api.TreeText, Word: "a", Num: -1},
		api.Tree{Kind: api.TreeText, Word: "a", Kids: kids},
		api.Tree{Kind: api.TreeList, Word: "a"},
		api.Tree{Kind: api.TreeList, Num: 1},
		api.Tree{Kind: api.TreeList, Word: "a", Kids: kids},
		api.Tree{Kind: api.TreeList, Num: -1, Kids: kids},
	)
	for _, kind := range []int{0, -1, -2, 5, 6, 8, 256 + api.TreeWord, 1<<32 + api.TreeList, math.MinInt, math.MaxInt} {
		unsound = append(unsound, api.Tree{Kind: kind}, api.Tree{Kind: kind, Word: "a"}, api.Tree{Kind: kind, Num: 1}, api.Tree{Kind: kind, Kids: kids})
	}
	for _, u := range unsound {
		unprinted(t, trees(u), api.ErrSexp)
		unprinted(t, trees(word("a"), u, word("b")), api.ErrSexp)
		unprinted(t, trees(list(word("a"), list(list(), u), num(1))), api.ErrSexp)
		// What isn't sound counts ahead of what is too much.
		unprinted(t, trees(within(40, u)), api.ErrSexp)
		unprinted(t, trees(within(40, word("a")), u), api.ErrSexp)
		unprinted(t, trees(text(wordOf(api.MaxIsaText)), u), api.ErrSexp)
	}
	unprinted(t, append(flatTrees(api.MaxNodes+1, word("a")), word("7")), api.ErrSexp)
	unprinted(t, trees(within(1<<16, word("7"))), api.ErrSexp)
}

func TestPrintTooManyTrees(t *testing.T) {
	const most = api.MaxNodes
	prints(t, flatTrees(most, word("a")), strings.Repeat("a\n", most))
	prints(t, trees(list(flatTrees(most-1, num(7))...)), "(7"+strings.Repeat(" 7", most-2)+")\n")
	prints(t, flatTrees(most/2, list(text(""))), strings.Repeat("(\"\")\n", most/2))
	unprinted(t, flatTrees(most+1, word("a")), api.ErrSexpMany)
	unprinted(t, trees(list(flatTrees(most, word("a"))...)), api.ErrSexpMany)
	unprinted(t, trees(list(flatTrees(most-1, word("a"))...), list()), api.ErrSexpMany)
	unprinted(t, append(flatTrees(most/2, list(num(7))), list()), api.ErrSexpMany)
	unprinted(t, flatTrees(1<<20, word("a")), api.ErrSexpMany)
}

func TestPrintTooDeep(t *testing.T) {
	const most = api.MaxDepth
	open, shut := strings.Repeat("(", most), strings.Repeat(")", most)
	prints(t, trees(within(most, word("a"))), open+"a"+shut+"\n")
	prints(t, trees(within(most-1, list())), open+shut+"\n")
	prints(t, trees(within(most-1, list()), list(within(most-1, num(1)))), open+shut+"\n"+open+"1"+shut+"\n")
	unprinted(t, trees(within(most, list())), api.ErrSexpMany)
	unprinted(t, trees(within(most+1, word("a"))), api.ErrSexpMany)
	unprinted(t, trees(word("a"), list(list(), within(most, word("a")))), api.ErrSexpMany)
	unprinted(t, trees(within(1<<16, word("a"))), api.ErrSexpMany)
}

func TestPrintTooLong(t *testing.T) {
	const most = api.MaxIsaText
	prints(t, trees(word(wordOf(most-1))), wordOf(most-1)+"\n")
	prints(t, trees(text(wordOf(most-3))), `"`+wordOf(most-3)+"\"\n")
	prints(t, trees(list(word(wordOf(most-5)), num(1))), "("+wordOf(most-5)+" 1)\n")
	prints(t, trees(word(wordOf(most-4)), list()), wordOf(most-4)+"\n()\n")
	for _, l := range [][]api.Tree{
		trees(word(wordOf(most))),
		trees(word(wordOf(4 * most))),
		trees(text(wordOf(most - 2))),
		trees(list(word(wordOf(most-4)), num(1))),
		trees(list(word(wordOf(most - 2)))),
		trees(list(word(wordOf(most-4)), list())),
		trees(word(wordOf(most-3)), list()),
		flatTrees(api.MaxNodes/2, word("aaaaaaaa")),
		flatTrees(api.MaxNodes, text(wordOf(1000))),
		trees(list(word(wordOf(most)))),
		trees(list(word(wordOf(most-1)), word("a"))),
		trees(list(word(wordOf(most-2)), word("a"))),
	} {
		unprinted(t, l, api.ErrSexpMany)
	}
}

func TestPrintChangesNothing(t *testing.T) {
	all := trees(list(word("a"), list(num(7), text("b"))), word("c"), word("spare"), word("room"))
	before := clone(all)
	s, e := sexp.Print(all[:2])
	if s != "(a (7 \"b\"))\nc\n" || e != api.OK || !same(all, before) {
		t.Error(s, e, all)
	}
}

// Both

// TestOfTheChapter: its examples.
func TestOfTheChapter(t *testing.T) {
	parses(t, `(a "b c" -7) ; x`, trees(list(word("a"), text("b c"), num(-7))))
	refuses(t, "(a", 2, 31)
	refuses(t, "007", 0, 31)
	refuses(t, strings.Repeat("(", 33), 32, 33)
	unprinted(t, trees(word("")), 31)
	unprinted(t, trees(within(33, word("a"))), 33)
}

var (
	gap    = regexp.MustCompile(`^(?:[ \n]|;[^\n]*)+`)
	quoted = regexp.MustCompile(`^"[ !#-~]*"`)
	notOne = regexp.MustCompile(`^"[ !#-~]*[^ -~\n]`)
	run    = regexp.MustCompile(`^[!#-'*-:<-~]+`)
	digits = regexp.MustCompile(`^(?:0|-?[1-9][0-9]{0,17})$`)
)

// read is a slower reading of short texts: token by token, with a stack of lists.
func read(s string) ([]api.Tree, int, api.Errno) {
	stack := [][]api.Tree{nil}
	for at := 0; at < len(s); {
		rest, top := s[at:], len(stack)-1
		var t api.Tree
		size := 1
		switch m := run.FindString(rest); {
		case gap.MatchString(rest):
			at += len(gap.FindString(rest))
			continue
		case rest[0] == '(':
			stack = append(stack, nil)
			at++
			continue
		case rest[0] == ')' && top > 0:
			t = list(stack[top]...)
			stack = stack[:top]
			top--
		case quoted.MatchString(rest):
			size = len(quoted.FindString(rest))
			t = text(rest[1 : size-1])
		case notOne.MatchString(rest):
			return nil, at + len(notOne.FindString(rest)) - 1, api.ErrSexp
		case digits.MatchString(m):
			n, _ := strconv.Atoi(m)
			t, size = num(n), len(m)
		case m != "" && !strings.ContainsAny(m[:1], "-0123456789"):
			t, size = word(m), len(m)
		default:
			return nil, at, api.ErrSexp
		}
		stack[top] = append(stack[top], t)
		at += size
	}
	if len(stack) > 1 {
		return nil, len(s), api.ErrSexp
	}
	return stack[0], 0, api.OK
}

// heldAgainst holds Parse of a text against the slower reading, and Print against Parse.
func heldAgainst(t *testing.T, s string) {
	want, place, wanted := read(s)
	l, at, e := sexp.Parse(s)
	if !same(l, want) || at != place || e != wanted {
		t.Fatalf("%q: %v %d %d, not %v %d %d", s, l, at, e, want, place, wanted)
	}
	if e != api.OK {
		return
	}
	p, e := sexp.Print(l)
	back, _, e2 := sexp.Parse(p)
	if e != api.OK || e2 != api.OK || !same(back, l) || strings.Count(p, "\n") != len(l) {
		t.Fatalf("%q: %q %d, %v %d", s, p, e, back, e2)
	}
}

// TestAllShortTexts of some bytes.
func TestAllShortTexts(t *testing.T) {
	const some = "()\";a07- \n\x01"
	var all func(s string, more int)
	all = func(s string, more int) {
		heldAgainst(t, s)
		if more > 0 {
			for n := range len(some) {
				all(s+some[n:n+1], more-1)
			}
		}
	}
	all("", 5)
}

// TestMixedTexts: longer texts of pieces in no order.
func TestMixedTexts(t *testing.T) {
	pieces := []string{"(", "(", "(", ")", ")", ")", " ", " ", "\n", "a", "bc", "+7", "7", "-12", "0", "\"\"", "\"x ; y\"", "; r\n", "999999999999999999", "()"}
	seldom := []string{"-0", "\"", "\xff", "\t", "007", "1000000000000000000", ")", "; \x01", "\"\x01"}
	some := uint32(1)
	next := func(n int) int {
		some = some*1664525 + 1013904223
		return int(some>>8) % n
	}
	for range 20000 {
		s, open := "", 0
		for range next(40) {
			p := pieces[next(len(pieces))]
			switch {
			case next(60) == 0:
				p = seldom[next(len(seldom))]
			case p == "(":
				open++
			case p == ")" && open == 0:
				continue
			case p == ")":
				open--
			}
			s += p + strings.Repeat(" ", next(2))
		}
		if next(8) > 0 {
			s += strings.Repeat(")", open)
		}
		heldAgainst(t, s)
	}
}

// TestMixedTrees: Parse of Print gives the same trees, and nothing changes when asked again.
func TestMixedTrees(t *testing.T) {
	some := uint32(7)
	next := func(n int) int {
		some = some*1664525 + 1013904223
		return int(some>>8) % n
	}
	var grow func(deep int) []api.Tree
	grow = func(deep int) []api.Tree {
		var l []api.Tree
		for range next(6) {
			switch next(4) {
			case 0:
				l = append(l, word([]string{"a", "+", ".01x", "t[9:0]", "_"}[next(5)]))
			case 1:
				l = append(l, num((next(3)-1)*[]int{0, 1, 7, 123456, 999999999999999999}[next(5)]))
			case 2:
				l = append(l, text([]string{"", " ", "add d, i(a)", ";", "()"}[next(5)]))
			case 3:
				if deep > 0 {
					l = append(l, list(grow(deep-1)...))
				}
			}
		}
		return l
	}
	for range 3000 {
		l := grow(5)
		before := clone(l)
		s, e := sexp.Print(l)
		again, e2 := sexp.Print(l)
		back, at, e3 := sexp.Parse(s)
		if e != api.OK || e2 != api.OK || e3 != api.OK || at != 0 || s != again || !same(back, l) || !same(l, before) {
			t.Fatal(l, s, again, back, e, e2, e3)
		}
	}
}

// TestAnswersAreEmptyNotOdd: fields that a tree's kind doesn't have are zero in what Parse answers.
func TestAnswersAreEmptyNotOdd(t *testing.T) {
	l, _, _ := sexp.Parse("a 7 \"b\" ()")
	want := trees(word("a"), num(7), text("b"), api.Tree{Kind: api.TreeList})
	if len(l) == 4 && len(l[3].Kids) == 0 {
		l[3].Kids = nil
	}
	if !reflect.DeepEqual(l, want) {
		t.Error(l)
	}
}
