package asmtext_test

import (
	"math"
	"slices"
	"strings"
	"testing"

	"dovetail/api"
	"dovetail/asmtext"
)

// P13.3

// joins says that tokens have a text, which has them.
func joins(t *testing.T, want string, l ...api.Tok) {
	t.Helper()
	if s := asmtext.Join(l); s != want {
		t.Errorf("%.300v: %.80q, not %.80q", l, s, want)
	}
	cut(t, want, l...)
}

func TestJoin(t *testing.T) {
	joins(t, "")
	joins(t, "a", word("a"))
	joins(t, "a b", word("a"), word("b"))
	joins(t, "8 ( sp )", word("8"), sign("("), word("sp"), sign(")"))
	joins(t, "- -", sign("-"), sign("-"))
	joins(t, "a :", word("a"), sign(":"))
	joins(t, `""`, text(""))
	joins(t, `"" "" ""`, text(""), text(""), text(""))
	joins(t, `a "a" , "b c" b`, word("a"), text("a"), sign(","), text("b c"), word("b"))
	joins(t, `"\x22"`, text(`"`))
	joins(t, `"\x5cn\x5c\x5c\x22"`, text(`\n\\"`))
	joins(t, `"\x0a\x09\x00\x0d\x1f !~\x7f\x80\xab\xff"`, text("\n\t\x00\r\x1f !~\x7f\x80\xab\xff"))
	joins(t, `"\xc3\xa4"`, text("ä"))
	joins(t, `"# a"`, text("# a"))
	joins(t, strings.Repeat("w ", api.MaxToks-1)+"w", words(api.MaxToks)...)
	long := strings.Repeat("z", 300000)
	joins(t, long+` "`+long+`"`, word(long), text(long))
}

// Each byte of a text is written so that it can be read.
func TestJoinTextBytes(t *testing.T) {
	for c, s := range bytesAll() {
		want := s
		if c < 32 || c > 126 || s == `"` || s == `\` {
			want = `\x` + "0123456789abcdef"[c/16:c/16+1] + "0123456789abcdef"[c%16:c%16+1]
		}
		joins(t, `"`+want+`"`, text(s))
		joins(t, `"a`+want+want+`4"`, text("a"+s+s+"4"))
	}
	all := strings.Join(bytesAll(), "")
	cut(t, asmtext.Join(toks(text(all), text(all))), text(all), text(all))
}

// Of what Words wouldn't give the tokens are written all the same.
func TestJoinAnyTokens(t *testing.T) {
	for _, s := range []string{"", "a b", "\"", "\n", "\xff", "::"} {
		for _, kind := range []int{api.TokWord, api.TokSign, 0, 4, -1, math.MaxInt} {
			if got := asmtext.Join(toks(api.Tok{Kind: kind, Text: s}, word("a"), api.Tok{Kind: kind, Text: s})); got != s+" a "+s {
				t.Errorf("%d %q: %q", kind, s, got)
			}
		}
	}
	if got := asmtext.Join(words(100000)); got != strings.Repeat(" w", 100000)[1:] {
		t.Errorf("%.80q", got)
	}
}

// P13.4

func TestPrint(t *testing.T) {
	prints(t, "")
	prints(t, "a\n", line(1, "", word("a")))
	prints(t, "\n\na\n", line(3, "", word("a")))
	prints(t, "a\nb\n", line(1, "", word("a")), line(2, "", word("b")))
	prints(t, "\na\n\n\nb\n", line(2, "", word("a")), line(5, "", word("b")))
	prints(t, "a: \n", line(1, "a"))
	prints(t, "a: a: \n", line(1, "a a"))
	prints(t, "a: b\n", line(1, "a", word("b")))
	prints(t, "a: :\n", line(1, "a", sign(":")))
	prints(t, "a: : b :\n", line(1, "a", sign(":"), word("b"), sign(":")))
	prints(t, "a b :\n", line(1, "", word("a"), word("b"), sign(":")))
	prints(t, "a \":\"\n", line(1, "", word("a"), text(":")))
	prints(t, "\"a\" :\n", line(1, "", text("a"), sign(":")))
	prints(t, "7 : b\n", line(1, "", word("7"), sign(":"), word("b")))
	prints(t, "a: b: .ascii \"\\x22#\\x0a\" , c\n", line(1, "a b", word(".ascii"), text("\"#\n"), sign(","), word("c")))
	prints(t, strings.Repeat("\n", api.MaxLines-1)+"a\n", line(api.MaxLines, "", word("a")))
	prints(t, "a\n"+strings.Repeat("\n", api.MaxLines-2)+"b: \n", line(1, "", word("a")), line(api.MaxLines, "b"))
	for _, s := range names() {
		prints(t, s+": "+s+"\n", line(1, s, word(s)))
		prints(t, s+": "+s+": a: 0\n", line(1, s+" "+s+" a", word("0")))
	}
	for _, s := range notNames() {
		prints(t, s+" : "+s+"\n", line(1, "", word(s), sign(":"), word(s)))
	}
	for _, c := range bytesAll() {
		if strings.Contains(signBytes, c) {
			prints(t, c+"\n", line(1, "", sign(c)))
		}
	}
}

func TestPrintNumbers(t *testing.T) {
	a := toks(word("a"))
	for _, no := range []int{0, -1, math.MinInt, math.MaxInt, api.MaxLines + 1, 1 << 32} {
		unprinted(t, api.ErrAsm, api.Line{No: no, Toks: a})
		unprinted(t, api.ErrAsm, api.Line{No: 1, Toks: a}, api.Line{No: no, Toks: a})
		unprinted(t, api.ErrAsm, api.Line{No: no, Labels: labels("a")})
	}
	for _, l := range [][]int{{1, 1}, {2, 1}, {1, 2, 2}, {1, 3, 2}, {5, 4, 6}, {api.MaxLines, api.MaxLines}, {1, 2, 3, 0}} {
		var all []api.Line
		for _, no := range l {
			all = append(all, api.Line{No: no, Toks: a})
		}
		unprinted(t, api.ErrAsm, all...)
	}
	var all []api.Line
	for i := range api.MaxLines {
		all = append(all, api.Line{No: i + 1, Toks: a})
	}
	prints(t, strings.Repeat("a\n", api.MaxLines), all...)
	unprinted(t, api.ErrAsm, append(all, api.Line{No: api.MaxLines + 1, Toks: a})...)
	unprinted(t, api.ErrAsm, slices.Repeat(all, 2)...)
}

// wrongLines are lines such as Parse doesn't give, all of them for what they have.
func wrongLines() []api.Line {
	l := []api.Line{
		{No: 1},
		{No: 1, Labels: []string{}, Toks: []api.Tok{}},
		line(1, "", word("a"), sign(":")),
		line(1, "", word("a"), sign(":"), word("b")),
		line(1, "b", word("_0"), sign(":")),
		line(1, "", api.Tok{}),
		line(1, "", word("a"), api.Tok{}),
		line(1, "", sign("")),
		line(1, "", sign("a")),
		line(1, "", sign("((")),
		line(1, "", sign(", ")),
		line(1, "", sign("\"\"")),
		line(1, "a", word("b"), word("")),
		line(1, "", word(":")),
		line(1, "", word("a"), word(":")),
	}
	for _, kind := range []int{0, 4, -1, math.MinInt, math.MaxInt} {
		for _, s := range []string{"", "a", ",", "\""} {
			l = append(l, line(1, "", api.Tok{Kind: kind, Text: s}), line(1, "a", word("b"), api.Tok{Kind: kind, Text: s}))
		}
	}
	for _, s := range notWords() {
		l = append(l, line(1, "", word(s)), line(1, "a", sign(","), word(s), sign(",")), api.Line{No: 1, Labels: labels(s)}, api.Line{No: 1, Labels: labels("a", s), Toks: words(1)})
	}
	for _, s := range notNames() {
		l = append(l, line(1, s), line(1, s, word("a")), line(1, "a "+s+" b"))
	}
	for _, s := range names() {
		l = append(l, line(1, "", word(s), sign(":")), line(1, "a", word(s), sign(":"), word("b")))
	}
	for _, c := range bytesAll() {
		if !strings.Contains(signBytes, c) {
			l = append(l, line(1, "", sign(c)))
		}
		if !strings.Contains(wordBytes, c) {
			l = append(l, line(1, "", word(c)), line(1, "", word("a"+c)), line(1, "", word(c+"a")), api.Line{No: 1, Labels: labels("a" + c)}, api.Line{No: 1, Labels: labels(c)})
		}
	}
	return l
}

func TestPrintRefuses(t *testing.T) {
	long := line(2, "", text(strings.Repeat("\n", api.MaxAsm)))
	crowd := line(3, "", words(api.MaxToks+1)...)
	for _, x := range wrongLines() {
		unprinted(t, api.ErrAsm, x)
		behind := x
		behind.No = 4
		unprinted(t, api.ErrAsm, line(1, "a"), behind, line(5, "a"))
		// What is none counts ahead of what is too many, wherever it stands.
		unprinted(t, api.ErrAsm, long, crowd, behind)
		unprinted(t, api.ErrAsm, x, long, crowd)
	}
	unprinted(t, api.ErrAsm, long, crowd, line(3, "a"))
	unprinted(t, api.ErrAsm, line(1, "a", append(words(api.MaxToks), sign("!"))...))
	unprinted(t, api.ErrAsm, api.Line{No: 1, Labels: append(named(api.MaxToks), "7")})
	unprinted(t, api.ErrAsm, api.Line{No: api.MaxLines + 1, Toks: words(api.MaxToks + 1)})
}

func TestPrintManyTokens(t *testing.T) {
	for n := range api.MaxToks/2 + 3 {
		for more := -2; more <= 2; more++ {
			x := api.Line{No: 2, Labels: named(n), Toks: words(max(0, api.MaxToks-2*n+more))}
			switch {
			case 2*len(x.Labels)+len(x.Toks) > api.MaxToks:
				unprinted(t, api.ErrAsmMany, x)
				unprinted(t, api.ErrAsmMany, line(1, "a"), x, line(3, "b"))
			default:
				prints(t, "\n"+strings.Repeat("l: ", n)+asmtext.Join(x.Toks)+"\n", x)
			}
		}
	}
	unprinted(t, api.ErrAsmMany, line(1, "", words(100000)...))
	unprinted(t, api.ErrAsmMany, api.Line{No: 1, Labels: named(100000)})
}

func TestPrintLongTexts(t *testing.T) {
	z := strings.Repeat("z", api.MaxAsm+1)
	for _, c := range []struct {
		rest int // the bytes beside the word
		l    func(s string) []api.Line
	}{
		{1, func(s string) []api.Line { return lines(line(1, "", word(s))) }},
		{3, func(s string) []api.Line { return lines(line(1, s)) }},
		{3, func(s string) []api.Line { return lines(line(1, "", text(s))) }},
		{5, func(s string) []api.Line { return lines(line(5, "", word(s))) }},
		{api.MaxLines, func(s string) []api.Line { return lines(line(api.MaxLines, "", word(s))) }},
		{7, func(s string) []api.Line { return lines(line(1, "", word("a"), sign(","), word(s), sign(","))) }},
		{9, func(s string) []api.Line { return lines(line(1, "ab", word(s), sign(","), word("c"))) }},
		{8, func(s string) []api.Line { return lines(line(1, "", text("\n"), word(s))) }},
		{8, func(s string) []api.Line {
			return lines(line(1, "", word("a")), line(4, "", word(s)), line(6, "", sign(",")))
		}},
		{10, func(s string) []api.Line { return lines(line(2, s), line(3, "a"), line(4, "", sign(","))) }},
	} {
		n := api.MaxAsm - c.rest
		s, e := asmtext.Print(c.l(z[:n]))
		if len(s) != api.MaxAsm || e != api.OK {
			t.Errorf("%d bytes, %v, rest %d", len(s), e, c.rest)
			continue
		}
		reads(t, s, c.l(z[:n])...)
		unprinted(t, api.ErrAsmMany, c.l(z[:n+1])...)
		unprinted(t, api.ErrAsmMany, c.l(z)...)
	}
	for _, c := range []string{"\n", "\x00", "\"", "\\", "\x7f", "\xff"} {
		most := (api.MaxAsm - 3) / 4
		prints(t, asmtext.Join(toks(text(strings.Repeat(c, most)+"a")))+"\n", line(1, "", text(strings.Repeat(c, most)+"a")))
		unprinted(t, api.ErrAsmMany, line(1, "", text(strings.Repeat(c, most)+"aa")))
		unprinted(t, api.ErrAsmMany, line(1, "", text(strings.Repeat(c, most+1))))
		unprinted(t, api.ErrAsmMany, line(1, "", text(strings.Repeat(c, 1<<24))))
	}
	var all []api.Line
	for i := range api.MaxLines {
		all = append(all, line(i+1, "", word(z[:15])))
	}
	prints(t, strings.Repeat(z[:15]+"\n", api.MaxLines), all...)
	all[500] = line(501, "", word(z[:16]))
	unprinted(t, api.ErrAsmMany, all...)
}

// What Parse gives of a text may be too long to be printed.
func TestPrintOfParse(t *testing.T) {
	s := `"` + strings.Repeat(`\n`, 100000) + `"`
	l, no, e := asmtext.Parse(s)
	if no != 0 || e != api.OK {
		t.Fatal(no, e)
	}
	unprinted(t, api.ErrAsmMany, l...)
	l, _, _ = asmtext.Parse(strings.Repeat(`"\n",a:-1#`+"\n", 10000))
	prints(t, strings.Repeat(`"\x0a" , a : - 1`+"\n", 10000), l...)
}
