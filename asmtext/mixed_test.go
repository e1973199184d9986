package asmtext_test

import (
	"math/rand"
	"regexp"
	"strconv"
	"strings"
	"testing"

	"dovetail/api"
	"dovetail/asmtext"
)

// A slower reading of the chapter, by patterns.

const (
	quotedPattern = `"(?:[ !#-\[\]-~]|\\[nt0\\"]|\\x[0-9a-f]{2})*"`
	tokenPattern  = `[A-Za-z0-9_.$]+|[()\[\]+\-*,:%]|` + quotedPattern
)

var (
	aLine   = regexp.MustCompile(`(?s)\A((?:[ \t]|` + tokenPattern + `)*)(?:#.*)?\z`)
	aToken  = regexp.MustCompile(tokenPattern)
	aByte   = regexp.MustCompile(`\\(?:x..|.)`)
	isName  = regexp.MustCompile(`\A[A-Za-z_.$][A-Za-z_.$0-9]*\z`)
	isWord  = regexp.MustCompile(`\A[A-Za-z_.$0-9]+\z`)
	isSign  = regexp.MustCompile(`\A[()\[\]+\-*,:%]\z`)
	plainly = regexp.MustCompile(`[ !#-\[\]-~]`)
)

// unquoted is what a text stands for.
func unquoted(s string) string {
	return aByte.ReplaceAllStringFunc(s[1:len(s)-1], func(b string) string {
		n, err := strconv.ParseUint(b[2:], 16, 8)
		if b[1] == 'x' && err == nil {
			return string([]byte{byte(n)})
		}
		return map[byte]string{'n': "\n", 't': "\t", '0': "\x00", '\\': "\\", '"': "\""}[b[1]]
	})
}

// slowWords is what Words answers.
func slowWords(s string) ([]api.Tok, api.Errno) {
	parts := aLine.FindStringSubmatch(s)
	if parts == nil || strings.Contains(s, "\n") {
		return nil, api.ErrAsm
	}
	var l []api.Tok
	for _, token := range aToken.FindAllString(parts[1], -1) {
		switch {
		case isSign.MatchString(token):
			l = append(l, sign(token))
		case isWord.MatchString(token):
			l = append(l, word(token))
		default:
			l = append(l, text(unquoted(token)))
		}
	}
	if len(l) > 64 {
		return nil, api.ErrAsmMany
	}
	return l, api.OK
}

// slowParse is what Parse answers.
func slowParse(s string) ([]api.Line, int, api.Errno) {
	feeds := strings.Count(s, "\n")
	if last := strings.LastIndex(s, "\n"); last+1 < len(s) {
		feeds++
	}
	if len(s) > 262144 || feeds > 16384 {
		return nil, 0, api.ErrAsmMany
	}
	var l []api.Line
	for no := 1; s != ""; no++ {
		var first string
		first, s, _ = strings.Cut(s, "\n")
		rest, e := slowWords(first)
		if e != api.OK {
			return nil, no, e
		}
		x := api.Line{No: no}
		for len(rest) > 1 && rest[0].Kind == 1 && isName.MatchString(rest[0].Text) && rest[1] == sign(":") {
			x.Labels, rest = append(x.Labels, rest[0].Text), rest[2:]
		}
		if x.Toks = rest; len(x.Labels)+len(rest) > 0 {
			l = append(l, x)
		}
	}
	return l, 0, api.OK
}

// slowJoin is what Join answers.
func slowJoin(l []api.Tok) string {
	var parts []string
	for _, x := range l {
		s := x.Text
		if x.Kind == api.TokText {
			s = ""
			for _, c := range []byte(x.Text) {
				if one := string([]byte{c}); plainly.MatchString(one) {
					s += one
				} else {
					s += `\x` + strconv.FormatInt(256+int64(c), 16)[1:]
				}
			}
			s = `"` + s + `"`
		}
		parts = append(parts, s)
	}
	return strings.Join(parts, " ")
}

// slowPrint is what Print answers: the text, if there is one, is read again.
func slowPrint(l []api.Line) (string, api.Errno) {
	var all strings.Builder
	last, many := 0, false
	for _, x := range l {
		if x.No <= last || x.No > 16384 || len(x.Labels)+len(x.Toks) == 0 {
			return "", api.ErrAsm
		}
		head := ""
		for _, s := range x.Labels {
			if !isName.MatchString(s) {
				return "", api.ErrAsm
			}
			head += s + ": "
		}
		for _, k := range x.Toks {
			if got, e := slowWords(slowJoin(toks(k))); e != api.OK || len(got) != 1 || got[0] != k {
				return "", api.ErrAsm
			}
		}
		if len(x.Toks) > 1 && isName.MatchString(x.Toks[0].Text) && x.Toks[0].Kind == 1 && x.Toks[1] == sign(":") {
			return "", api.ErrAsm
		}
		many = many || 2*len(x.Labels)+len(x.Toks) > 64
		all.WriteString(strings.Repeat("\n", x.No-last-1) + head + slowJoin(x.Toks) + "\n")
		last = x.No
	}
	if many || all.Len() > 262144 {
		return "", api.ErrAsmMany
	}
	return all.String(), api.OK
}

// held holds a text against the slower reading, back and forth.
func held(t *testing.T, s string) api.Errno {
	t.Helper()
	want, at, err := slowParse(s)
	l, no, e := asmtext.Parse(s)
	if !same(l, want) || no != at || e != err {
		t.Fatalf("%q: %v %d %v, not %v %d %v", s, l, no, e, want, at, err)
	}
	for _, x := range l {
		cut(t, asmtext.Join(x.Toks), x.Toks...)
	}
	heldPrint(t, l)
	return e
}

// heldPrint holds Print of lines against the slower reading, and Parse against Print.
func heldPrint(t *testing.T, l []api.Line) api.Errno {
	t.Helper()
	want, err := slowPrint(l)
	s, e := asmtext.Print(l)
	if s != want || e != err {
		t.Fatalf("%v: %q %v, not %q %v", l, s, e, want, err)
	}
	if again, no, f := asmtext.Parse(s); e == api.OK && (!same(again, l) || no != 0 || f != api.OK) {
		t.Fatalf("%v: %q gives %v %d %v", l, s, again, no, f)
	}
	return e
}

// All short texts of some bytes.
func TestParseShortTexts(t *testing.T) {
	for _, c := range []struct {
		bytes  string
		length int
	}{
		{"a1: \"\\#\n", 6}, {"\"\\x0nq", 7}, {"a:\n,7", 6}, {"x-\t\"#'\x00\xc3", 4},
	} {
		met := map[api.Errno]int{}
		var all func(s string)
		all = func(s string) {
			met[held(t, s)]++
			if len(s) < c.length {
				for _, b := range []byte(c.bytes) {
					all(s + string([]byte{b}))
				}
			}
		}
		all("")
		if met[api.OK] < 100 {
			t.Error(c, met)
		}
	}
}

// someLine is a line of pieces that are often right beside one another.
func someLine(r *rand.Rand) string {
	pieces := []string{"a", "b1", ".text", "7", "0x1f", "a:", "$b :", "_: ", ":", ",", "(", ")", "[", "]", "+", "-", "*", "%", " ", "\t", `""`, `"a b"`, `"\n\t\0\\\""`, `"\x00\xff"`, `"#"`, `"a:"`}
	wrong := []string{"'", `"`, `"\q"`, `"\x4A"`, "\\", "\x00", "é", "\"\t\"", ";", "\r"}
	var out strings.Builder
	n := r.Intn(12)
	if r.Intn(10) == 0 {
		n = 50 + r.Intn(25)
	}
	for range n {
		if r.Intn(4) > 0 {
			out.WriteString(" ")
		}
		out.WriteString(pieces[r.Intn(len(pieces))])
	}
	if r.Intn(40) == 0 {
		out.WriteString(wrong[r.Intn(len(wrong))])
	}
	if r.Intn(6) == 0 {
		out.WriteString("#" + pieces[r.Intn(len(pieces))] + wrong[r.Intn(len(wrong))])
	}
	return out.String()
}

func TestParseMixed(t *testing.T) {
	r := rand.New(rand.NewSource(13))
	met := map[api.Errno]int{}
	for range 6000 {
		var l []string
		for range r.Intn(12) {
			l = append(l, someLine(r))
		}
		s := strings.Join(l, "\n")
		if r.Intn(2) == 0 {
			s += "\n"
		}
		met[held(t, s)]++
		one := someLine(r)
		want, err := slowWords(one)
		if err != api.OK {
			uncut(t, one, err)
		} else {
			cut(t, one, want...)
		}
	}
	for _, e := range []api.Errno{api.OK, api.ErrAsm, api.ErrAsmMany} {
		if met[e] < 200 {
			t.Error(met)
		}
	}
}

// somePart is a label's or a token's text, most often a right one.
func somePart(r *rand.Rand, right ...string) string {
	if r.Intn(60) > 0 {
		return right[r.Intn(len(right))]
	}
	return []string{"", " ", "7", "a b", "a:", ":", "(", "((", "\"", "a\n", "\xff", "a"}[r.Intn(12)]
}

// someTok is a token, most often a right one.
func someTok(r *rand.Rand) api.Tok {
	switch r.Intn(8) {
	case 0, 1, 2:
		return word(somePart(r, "a", "b1", "7", ".L0", "0x1f", "$"))
	case 3, 4, 5:
		return sign(somePart(r, ":", ",", "(", ")", ":", "%", "-"))
	}
	if r.Intn(60) == 0 {
		return api.Tok{Kind: r.Intn(7) - 1, Text: "a"}
	}
	return text(somePart(r, "", "a", "\n", ":", "\"", "\\x", "\xc3\xa4", "# a"))
}

func TestPrintMixed(t *testing.T) {
	r := rand.New(rand.NewSource(134))
	met := map[api.Errno]int{}
	for range 20000 {
		var l []api.Line
		no := 0
		for range r.Intn(6) {
			no += 1 + r.Intn(3) - r.Intn(40)/39
			x := api.Line{No: no}
			for range r.Intn(3) * r.Intn(2) {
				x.Labels = append(x.Labels, somePart(r, "a", "_1", "$", "loop"))
			}
			n := 1 + r.Intn(6) - len(x.Labels)*r.Intn(2)
			if r.Intn(10) == 0 {
				n = 55 + r.Intn(12)
			}
			for range n {
				x.Toks = append(x.Toks, someTok(r))
			}
			l = append(l, x)
		}
		met[heldPrint(t, l)]++
	}
	for _, e := range []api.Errno{api.OK, api.ErrAsm, api.ErrAsmMany} {
		if met[e] < 200 {
			t.Error(met)
		}
	}
}
