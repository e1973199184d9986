package asmtext_test

import (
	"reflect"
	"slices"
	"strings"
	"testing"
	"unsafe"

	"dovetail/api"
	"dovetail/asmtext"
)

func word(s string) api.Tok { return api.Tok{Kind: api.TokWord, Text: s} }

func sign(s string) api.Tok { return api.Tok{Kind: api.TokSign, Text: s} }

func text(s string) api.Tok { return api.Tok{Kind: api.TokText, Text: s} }

func toks(l ...api.Tok) []api.Tok { return l }

func labels(l ...string) []string { return l }

// line is a line with labels that are parted by blanks.
func line(no int, names string, l ...api.Tok) api.Line {
	return api.Line{No: no, Labels: strings.Fields(names), Toks: l}
}

func lines(l ...api.Line) []api.Line { return l }

// words are n words.
func words(n int) []api.Tok { return slices.Repeat(toks(word("w")), n) }

// named are n labels.
func named(n int) []string { return slices.Repeat(labels("l"), n) }

// same says whether lines are equal, a nil list being an empty one.
func same(a, b []api.Line) bool {
	return slices.EqualFunc(a, b, func(x, y api.Line) bool {
		return x.No == y.No && slices.Equal(x.Labels, y.Labels) && slices.Equal(x.Toks, y.Toks)
	})
}

// bytesAll are all bytes, as texts.
func bytesAll() []string {
	var l []string
	for c := range 256 {
		l = append(l, string([]byte{byte(c)}))
	}
	return l
}

// wordBytes, signBytes are what words have, what signs are.
const (
	wordBytes = "ABCDEFGHIJKLMNOPQRSTUVWXYZabcdefghijklmnopqrstuvwxyz0123456789_.$"
	signBytes = "()[]+-*,:%"
)

// names are names of each kind of byte.
func names() []string {
	return []string{"$", "$0", ".", "...", ".L0", "A", "A_", "Z", "Z9", "_", "_$.aZ09", "__", "a", "loop", "x0", "z", "z0x1F", strings.Repeat("zz", 5000)}
}

// notNames are words that aren't names.
func notNames() []string { return []string{"0", "7a", "0x1", "9.", "1$", "2_", "00"} }

// notWords are texts that aren't words.
func notWords() []string {
	return []string{"", " a", "a ", "a b", "a\x00", "\x00", "a-b", "-a", "a@", "@a", "a[", "[a", "`", "a`", "{", "a{", "/", "a/", "a:", ":", "(a)", "ä", "aä", "a\xff", "\xc3", "a\n", "\ta", "%x", "a#", "\"a\"", "a;"}
}

// cut says that a line has some tokens.
func cut(t *testing.T, s string, want ...api.Tok) {
	t.Helper()
	l, e := asmtext.Words(s)
	if !slices.Equal(l, want) || e != api.OK {
		t.Errorf("%.80q: %.300v %v, not %.300v", s, l, e, want)
	}
}

// uncut says that a line is refused.
func uncut(t *testing.T, s string, want api.Errno) {
	t.Helper()
	if l, e := asmtext.Words(s); len(l) != 0 || e != want {
		t.Errorf("%.80q: %.300v %v, not %v", s, l, e, want)
	}
}

// reads says that a text has some lines.
func reads(t *testing.T, s string, want ...api.Line) {
	t.Helper()
	l, no, e := asmtext.Parse(s)
	if !same(l, want) || no != 0 || e != api.OK {
		t.Errorf("%.80q: %.300v %d %v, not %.300v", s, l, no, e, want)
	}
}

// refuses says that a text is refused, with a line's number.
func refuses(t *testing.T, s string, no int, want api.Errno) {
	t.Helper()
	if l, at, e := asmtext.Parse(s); len(l) != 0 || at != no || e != want {
		t.Errorf("%.80q: %.300v %d %v, not %d %v", s, l, at, e, no, want)
	}
}

// prints says that lines have a text, of which Parse gives them.
func prints(t *testing.T, want string, l ...api.Line) {
	t.Helper()
	s, e := asmtext.Print(l)
	if s != want || e != api.OK {
		t.Errorf("%.300v: %.80q %v, not %.80q", l, s, e, want)
	}
	reads(t, want, l...)
}

// unprinted says that lines have no text.
func unprinted(t *testing.T, want api.Errno, l ...api.Line) {
	t.Helper()
	if s, e := asmtext.Print(l); s != "" || e != want {
		t.Errorf("%.300v: %.80q %v, not %v", l, s, e, want)
	}
}

// roomy is a copy of lines with spare room behind each list.
func roomy(l []api.Line) []api.Line {
	var out []api.Line
	for _, x := range l {
		spareLabels, spareToks := append(slices.Clone(x.Labels), "spare", "0"), append(slices.Clone(x.Toks), sign("spare"), api.Tok{})
		out = append(out, api.Line{No: x.No, Labels: spareLabels[:len(x.Labels)], Toks: spareToks[:len(x.Toks)]})
	}
	return append(out, api.Line{No: -5}, api.Line{No: 99})[:len(l)]
}

// untouched says whether roomy lines still are what they were made of, with their spare room.
func untouched(got, l []api.Line) bool {
	full := func(l []api.Line) []api.Line {
		l = slices.Clone(l[:len(l)+2])
		for i := range l[:len(l)-2] {
			l[i].Labels, l[i].Toks = l[i].Labels[:len(l[i].Labels)+2], l[i].Toks[:len(l[i].Toks)+2]
		}
		return l
	}
	return reflect.DeepEqual(full(got), full(roomy(l)))
}

// spoil overwrites lists and their spare room.
func spoil(l []api.Line) {
	for i := range l {
		spoilToks(l[i].Toks)
		for k := range l[i].Labels[:cap(l[i].Labels)] {
			l[i].Labels[:cap(l[i].Labels)][k] = "spoilt"
		}
	}
	for i := range l[:cap(l)] {
		l[:cap(l)][i] = api.Line{No: -1}
	}
}

func spoilToks(l []api.Tok) {
	for i := range l[:cap(l)] {
		l[:cap(l)][i] = text("spoilt")
	}
}

const someText = "a: b: addi x1, x2, -3 # no\n\nc: .ascii \"x\\n\\x41#\"\nd:e:\nld d\n"

func someLines() []api.Line {
	return lines(
		line(1, "a b", word("addi"), word("x1"), sign(","), word("x2"), sign(","), sign("-"), word("3")),
		line(3, "c", word(".ascii"), text("x\nA#")),
		line(4, "d e"),
		line(5, "", word("ld"), word("d")))
}

// What the calls answer is new memory; what they are given stays.
func TestAnswersShareNothing(t *testing.T) {
	first, _, _ := asmtext.Parse(someText)
	second, _, _ := asmtext.Parse(someText)
	spoil(first[1:2:2])
	for i, want := range someLines() {
		if i != 1 && !same(first[i:i+1], lines(want)) {
			t.Error("two lists of one answer share", i, first[i])
		}
	}
	for i := range second {
		k := second[i]
		// What is added to one list isn't seen in another.
		_, _ = append(k.Labels, "new"), append(k.Toks, word("new"))
	}
	if !same(second, someLines()) {
		t.Error(second)
	}
	spoil(first)
	if !same(second, someLines()) {
		t.Error("two answers share", second)
	}
	one, _ := asmtext.Words("a , b")
	two, _ := asmtext.Words("a , b")
	spoilToks(one)
	if !slices.Equal(two, toks(word("a"), sign(","), word("b"))) {
		t.Error("two answers share", two)
	}
	l := roomy(someLines())
	if s, e := asmtext.Print(l); s != "a: b: addi x1 , x2 , - 3\n\nc: .ascii \"x\\x0aA#\"\nd: e: \nld d\n" || e != api.OK || !untouched(l, someLines()) {
		t.Error(s, e, l)
	}
	for i, x := range someLines() {
		if asmtext.Join(l[i].Toks) != asmtext.Join(x.Toks) || !untouched(l, someLines()) {
			t.Error(i, l)
		}
	}
}

// A text may be written over behind the call.
func TestKeepsNoText(t *testing.T) {
	b := []byte(someText)
	l, _, _ := asmtext.Parse(unsafe.String(&b[0], len(b)))
	c := []byte("ab, \"cd\" 12")
	w, _ := asmtext.Words(unsafe.String(&c[0], len(c)))
	one := []byte("word")
	j := asmtext.Join(toks(word(unsafe.String(&one[0], len(one)))))
	p, _ := asmtext.Print(lines(line(1, "", word(unsafe.String(&one[0], len(one))))))
	for _, x := range [][]byte{b, c, one} {
		for i := range x {
			x[i] = '#'
		}
	}
	if !same(l, someLines()) || !slices.Equal(w, toks(word("ab"), sign(","), text("cd"), word("12"))) || j != "word" || p != "word\n" {
		t.Error(l, w, j, p)
	}
}

// The examples of README.md and of the chapter.
func TestExamples(t *testing.T) {
	l, n, e := asmtext.Parse("loop: addi a0, a0, -1 # down")
	want := line(1, "loop", word("addi"), word("a0"), sign(","), word("a0"), sign(","), sign("-"), word("1"))
	if !same(l, lines(want)) || n != 0 || e != api.OK {
		t.Error(l, n, e)
	}
	if s, e := asmtext.Print(l); s != "loop: addi a0 , a0 , - 1\n" || e != api.OK {
		t.Error(s, e)
	}
	w, e := asmtext.Words(`.ascii "\x41\n"`)
	if !slices.Equal(w, toks(word(".ascii"), text("A\n"))) || e != api.OK {
		t.Error(w, e)
	}
	if s := asmtext.Join(w); s != `.ascii "A\x0a"` {
		t.Error(s)
	}
	if l, n, e = asmtext.Parse("nop\n'"); len(l) != 0 || n != 2 || e != api.ErrAsm {
		t.Error(l, n, e)
	}
}
