package asmtext_test

import (
	"strings"
	"testing"

	"dovetail/api"
	"dovetail/asmtext"
)

// P13.1

func TestWords(t *testing.T) {
	cut(t, "")
	cut(t, " ")
	cut(t, " \t \t")
	cut(t, "a", word("a"))
	cut(t, " a ", word("a"))
	cut(t, "\ta\t", word("a"))
	cut(t, "a b", word("a"), word("b"))
	cut(t, "a\tb", word("a"), word("b"))
	cut(t, "a \t  b", word("a"), word("b"))
	cut(t, "a,b", word("a"), sign(","), word("b"))
	cut(t, "a , b", word("a"), sign(","), word("b"))
	cut(t, "7a 0x1F 00 9", word("7a"), word("0x1F"), word("00"), word("9"))
	cut(t, ".L0 $x _y a.b$c_d", word(".L0"), word("$x"), word("_y"), word("a.b$c_d"))
	cut(t, "-3", sign("-"), word("3"))
	cut(t, "--", sign("-"), sign("-"))
	cut(t, "::", sign(":"), sign(":"))
	cut(t, "a:b", word("a"), sign(":"), word("b"))
	cut(t, "a: b:c", word("a"), sign(":"), word("b"), sign(":"), word("c"))
	cut(t, "8(sp)", word("8"), sign("("), word("sp"), sign(")"))
	cut(t, "[rax+4*rbx]", sign("["), word("rax"), sign("+"), word("4"), sign("*"), word("rbx"), sign("]"))
	cut(t, "%hi(f-1)", sign("%"), word("hi"), sign("("), word("f"), sign("-"), word("1"), sign(")"))
	cut(t, "()[]+-*,:%", sign("("), sign(")"), sign("["), sign("]"), sign("+"), sign("-"), sign("*"), sign(","), sign(":"), sign("%"))
	cut(t, strings.Repeat("z", 300000), word(strings.Repeat("z", 300000)))
	cut(t, strings.Repeat(" ", 300000)+"a"+strings.Repeat("\t", 300000), word("a"))
}

func TestWordsRemarks(t *testing.T) {
	cut(t, "#")
	cut(t, "# a b")
	cut(t, "  # a")
	cut(t, "a# b", word("a"))
	cut(t, "a #b # c", word("a"))
	cut(t, "a , # \"", word("a"), sign(","))
	cut(t, "a #'!\\ \x00\x7f\xff\r\v\u00e4 \"\\q", word("a"))
	cut(t, "\"#\"", text("#"))
	cut(t, "\"a#b\" # \"c\"", text("a#b"))
	cut(t, "\"#\"#\"#\"", text("#"))
	cut(t, "\"\\\"#\"a", text("\"#"), word("a"))
	cut(t, "#"+strings.Repeat("\" ' ", 100000))
	uncut(t, "\"a # b", api.ErrAsm)
	uncut(t, "\"a\\# b\"", api.ErrAsm)
	for _, c := range bytesAll() {
		if c != "\n" {
			cut(t, "a #"+c+" b", word("a"))
			cut(t, "#"+c)
		}
	}
}

func TestWordsTexts(t *testing.T) {
	cut(t, `""`, text(""))
	cut(t, `"a"`, text("a"))
	cut(t, `" a  b "`, text(" a  b "))
	cut(t, `"a""b"`, text("a"), text("b"))
	cut(t, `"""" ""`, text(""), text(""), text(""))
	cut(t, `a"b"c`, word("a"), text("b"), word("c"))
	cut(t, `.ascii "x\n\x41#", "y"`, word(".ascii"), text("x\nA#"), sign(","), text("y"))
	cut(t, `"\n\t\0\\\""`, text("\n\t\x00\\\""))
	cut(t, `"\012"`, text("\x0012"))
	cut(t, `"\\n"`, text("\\n"))
	cut(t, `"\\\n"`, text("\\\n"))
	cut(t, `"\\" "\""`, text("\\"), text("\""))
	cut(t, `"\x00\xff\x0a\x22\x5c\x7f"`, text("\x00\xff\x0a\"\\\x7f"))
	cut(t, `"\x414"`, text("A4"))
	cut(t, `"\x4a\x4fg"`, text("JOg"))
	cut(t, `"'!@;/"`, text("'!@;/"))
	for _, s := range []string{
		`"`, `a "`, `"a`, `"a b`, `"a" "`, `"""`, `"\"`, `"\`, `"\\\"`, `"\\" "\"`,
		`"\x"`, `"\x4"`, `"\x4 "`, `"\x4`, `"\x`, `"\x44`, `"\xg0"`, `"\x0g"`, `"\x4A"`, `"\xA4"`, `"\X41"`, `"\x-1"`, `"\x 1"`, `"\x"41"`, `"\x4"1"`, `"\x\41"`,
		`"\a"`, `"\1"`, `"\N"`, `"\ "`, `"\'"`, `"\u0041"`, `"\` + "\n" + `"`,
		"\"\t\"", "\"\r\"", "\"\x00\"", "\"\x1f\"", "\"\x7f\"", "\"\x80\"", "\"\xff\"", "\"ä\"", "\"a\nb\"",
	} {
		uncut(t, s, api.ErrAsm)
		uncut(t, "a "+s+" # b", api.ErrAsm)
	}
}

// each byte stands for itself within a text, or is none there.
func TestWordsTextBytes(t *testing.T) {
	for c, s := range bytesAll() {
		switch {
		case s == `"`:
			cut(t, `"""`+s, text(""), text(""))
		case c < 32 || c > 126 || s == `\`:
			uncut(t, `"`+s+`"`, api.ErrAsm)
			uncut(t, `"a`+s+`b"`, api.ErrAsm)
		default:
			cut(t, `"`+s+`"`, text(s))
			cut(t, `"a`+s+`b"`, text("a"+s+"b"))
		}
	}
}

func TestWordsEscapes(t *testing.T) {
	stands := map[string]string{"n": "\n", "t": "\t", "0": "\x00", `\`: `\`, `"`: `"`}
	for _, s := range bytesAll() {
		if want, ok := stands[s]; ok {
			cut(t, `"\`+s+`"`, text(want))
			cut(t, `"a\`+s+`b"`, text("a"+want+"b"))
		} else {
			uncut(t, `"\`+s+`"`, api.ErrAsm)
			uncut(t, `"a\`+s+`b"`, api.ErrAsm)
		}
	}
	digits := "0123456789abcdef"
	for _, high := range bytesAll() {
		for _, low := range bytesAll() {
			s := `"\x` + high + low + `"`
			if strings.Contains(digits, high) && strings.Contains(digits, low) {
				b := strings.Index(digits, high)*16 + strings.Index(digits, low)
				cut(t, s, text(string([]byte{byte(b)})))
			} else {
				uncut(t, s, api.ErrAsm)
			}
		}
	}
}

// Each byte, alone, behind a word and ahead of one.
func TestWordsBytes(t *testing.T) {
	for _, c := range bytesAll() {
		switch {
		case strings.Contains(wordBytes, c):
			cut(t, c, word(c))
			cut(t, "a"+c+"b", word("a"+c+"b"))
			cut(t, ","+c+",", sign(","), word(c), sign(","))
		case strings.Contains(signBytes, c):
			cut(t, c, sign(c))
			cut(t, "a"+c+"b", word("a"), sign(c), word("b"))
			cut(t, c+c, sign(c), sign(c))
		case c == " " || c == "\t":
			cut(t, c)
			cut(t, "a"+c+"b", word("a"), word("b"))
		case c == "#":
			cut(t, "a"+c+"b", word("a"))
		default:
			uncut(t, c, api.ErrAsm)
			uncut(t, "a"+c+"b", api.ErrAsm)
			uncut(t, "a "+c, api.ErrAsm)
		}
	}
	for _, s := range []string{"ä", "aä", "\u00a0", "a\u2003b", "\xc3", "'a'", "a;b", "a/b", "a\\", "{a}", "a=b", "a!", "a&b", "a|b", "a<b", "@a", "a?", "a~", "a^b", "`", "\r", "a\r"} {
		uncut(t, s, api.ErrAsm)
	}
}

// A line feed is none wherever it stands.
func TestWordsLineFeed(t *testing.T) {
	for _, s := range []string{"\n", "a\n", "\na", "a\nb", "#\n", "# a\nb", "a # b\n", "\"\n\"", "\"a\" # \n", strings.Repeat("a ", 65) + "\n", strings.Repeat("a ", 65) + "#\n"} {
		uncut(t, s, api.ErrAsm)
	}
}

func TestWordsMany(t *testing.T) {
	cut(t, strings.Repeat("w ", api.MaxToks), words(api.MaxToks)...)
	cut(t, strings.Repeat("w ", api.MaxToks)+"# w", words(api.MaxToks)...)
	cut(t, strings.Repeat("w ", api.MaxToks)+" \t ", words(api.MaxToks)...)
	cut(t, strings.Repeat("w ", api.MaxToks-1)+`"w w"`, append(words(api.MaxToks-1), text("w w"))...)
	for _, s := range []string{"w", ",", `""`, "w w", strings.Repeat("w ", 65), strings.Repeat(",", 1<<20)} {
		whole := strings.Repeat("w ", api.MaxToks) + s
		uncut(t, whole, api.ErrAsmMany)
		uncut(t, whole+" # '", api.ErrAsmMany)
		// What is none counts ahead of what is too many, wherever it stands.
		uncut(t, whole+" '", api.ErrAsm)
		uncut(t, whole+` "`, api.ErrAsm)
		uncut(t, "\\"+whole, api.ErrAsm)
		uncut(t, whole+"\n", api.ErrAsm)
	}
	uncut(t, strings.Repeat("w ", api.MaxToks)+"'", api.ErrAsm)
	uncut(t, strings.Repeat(":", api.MaxToks+1), api.ErrAsmMany)
	uncut(t, strings.Repeat("w:", api.MaxToks/2)+",", api.ErrAsmMany)
	uncut(t, strings.Repeat(`"`, 2*api.MaxToks+2), api.ErrAsmMany)
	uncut(t, strings.Repeat(`"`, 2*api.MaxToks+3), api.ErrAsm)
	if l, e := asmtext.Words(strings.Repeat(`"`, 2*api.MaxToks)); len(l) != api.MaxToks || e != api.OK {
		t.Error(l, e)
	}
}
