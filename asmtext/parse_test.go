package asmtext_test

import (
	"strconv"
	"strings"
	"testing"

	"dovetail/api"
	"dovetail/asmtext"
)

// P13.2

func TestParse(t *testing.T) {
	reads(t, "")
	reads(t, "\n")
	reads(t, "\n\n \n\t\n # a\n#\n")
	reads(t, "a", line(1, "", word("a")))
	reads(t, "a\n", line(1, "", word("a")))
	reads(t, "\na", line(2, "", word("a")))
	reads(t, "a\nb", line(1, "", word("a")), line(2, "", word("b")))
	reads(t, "a\n\n# b\n \nc\n\n", line(1, "", word("a")), line(5, "", word("c")))
	reads(t, "a # b\nc", line(1, "", word("a")), line(2, "", word("c")))
	reads(t, "\"a\" # \"\n\"b\"", line(1, "", text("a")), line(2, "", text("b")))
	reads(t, "\"\\n\"\n,", line(1, "", text("\n")), line(2, "", sign(",")))
	reads(t, someText, someLines()...)
}

func TestParseLabels(t *testing.T) {
	reads(t, "a:", line(1, "a"))
	reads(t, "a :", line(1, "a"))
	reads(t, "\ta\t:\t", line(1, "a"))
	reads(t, "a:b", line(1, "a", word("b")))
	reads(t, "a: b # c:", line(1, "a", word("b")))
	reads(t, "a:b:", line(1, "a b"))
	reads(t, "a: a: a", line(1, "a a", word("a")))
	reads(t, "a: b: c: d e: f", line(1, "a b c", word("d"), word("e"), sign(":"), word("f")))
	reads(t, "a b:", line(1, "", word("a"), word("b"), sign(":")))
	reads(t, ":", line(1, "", sign(":")))
	reads(t, ": a:", line(1, "", sign(":"), word("a"), sign(":")))
	reads(t, "a::", line(1, "a", sign(":")))
	reads(t, "a:: b:", line(1, "a", sign(":"), word("b"), sign(":")))
	reads(t, "a", line(1, "", word("a")))
	reads(t, "a,:", line(1, "", word("a"), sign(","), sign(":")))
	reads(t, "a%:", line(1, "", word("a"), sign("%"), sign(":")))
	reads(t, "a # :", line(1, "", word("a")))
	reads(t, "a\n:", line(1, "", word("a")), line(2, "", sign(":")))
	reads(t, "a:\nb:\n\nc: d", line(1, "a"), line(2, "b"), line(4, "c", word("d")))
	reads(t, "\"a\":", line(1, "", text("a"), sign(":")))
	reads(t, "a \":\"", line(1, "", word("a"), text(":")))
	reads(t, "\"a\": b:", line(1, "", text("a"), sign(":"), word("b"), sign(":")))
	reads(t, "a: \"b\": c:", line(1, "a", text("b"), sign(":"), word("c"), sign(":")))
	reads(t, ".text: $: _:", line(1, ".text $ _"))
	for _, s := range names() {
		reads(t, s+":"+s+" :nop", line(1, s+" "+s, word("nop")))
	}
	for _, s := range notNames() {
		reads(t, s+": nop", line(1, "", word(s), sign(":"), word("nop")))
		reads(t, "a: "+s+": b:", line(1, "a", word(s), sign(":"), word("b"), sign(":")))
	}
	for _, c := range wordBytes {
		if s := string(c); s >= "0" && s <= "9" {
			reads(t, s+":", line(1, "", word(s), sign(":")))
			reads(t, s+"a:", line(1, "", word(s+"a"), sign(":")))
			reads(t, "a"+s+":", line(1, "a"+s))
		} else {
			reads(t, s+":", line(1, s))
			reads(t, s+"0:", line(1, s+"0"))
		}
	}
}

// The first line that is wrong counts, whatever is wrong with others.
func TestParseRefuses(t *testing.T) {
	many := strings.Repeat("a ", api.MaxToks+1)
	refuses(t, "'", 1, api.ErrAsm)
	refuses(t, "ok\n'a'", 2, api.ErrAsm)
	refuses(t, "\n\n\n\"a\n\"", 4, api.ErrAsm)
	refuses(t, "\"a\nb\"", 1, api.ErrAsm)
	refuses(t, "a \\\nb", 1, api.ErrAsm)
	refuses(t, "a\r\nb", 1, api.ErrAsm)
	refuses(t, "a: b: '", 1, api.ErrAsm)
	refuses(t, "# '\n'", 2, api.ErrAsm)
	refuses(t, many, 1, api.ErrAsmMany)
	refuses(t, "\n"+many+"\n'", 2, api.ErrAsmMany)
	refuses(t, "\n'\n"+many, 2, api.ErrAsm)
	refuses(t, many+"'\n", 1, api.ErrAsm)
	refuses(t, "a\nb\n"+many+" # c\n", 3, api.ErrAsmMany)
	refuses(t, strings.Repeat("a\n", api.MaxLines-1)+"'", api.MaxLines, api.ErrAsm)
	refuses(t, strings.Repeat("\n", api.MaxLines-1)+many+"\n", api.MaxLines, api.ErrAsmMany)
}

// A line's labels are tokens, too.
func TestParseManyTokens(t *testing.T) {
	reads(t, strings.Repeat("w ", api.MaxToks), line(1, "", words(api.MaxToks)...))
	reads(t, strings.Repeat("l:", api.MaxToks/2), api.Line{No: 1, Labels: named(api.MaxToks / 2)})
	reads(t, "\nl:l:"+strings.Repeat("w ", api.MaxToks-4), line(2, "l l", words(api.MaxToks-4)...))
	refuses(t, strings.Repeat("l:", api.MaxToks/2)+"w", 1, api.ErrAsmMany)
	refuses(t, strings.Repeat("l:", api.MaxToks/2)+"l:", 1, api.ErrAsmMany)
	refuses(t, "\nl:l:"+strings.Repeat("w ", api.MaxToks-3), 2, api.ErrAsmMany)
	full := strings.Repeat("w ", api.MaxToks) + "\n"
	if l, no, e := asmtext.Parse(strings.Repeat(full, 2000)); len(l) != 2000 || no != 0 || e != api.OK {
		t.Error(len(l), no, e)
	}
}

func TestParseLongTexts(t *testing.T) {
	most := strings.Repeat("z", api.MaxAsm)
	reads(t, most, line(1, "", word(most)))
	reads(t, most[1:]+"\n", line(1, "", word(most[1:])))
	reads(t, most[1:]+":", line(1, most[1:]))
	reads(t, strings.Repeat(" ", api.MaxAsm))
	reads(t, "#"+strings.Repeat("'", api.MaxAsm-1))
	for _, s := range []string{most + "z", most + "\n", most + " ", "'" + most, most + "'", "#" + most, strings.Repeat("' ", api.MaxAsm), strings.Repeat("\n", api.MaxAsm+1), strings.Repeat("w ", api.MaxAsm)} {
		refuses(t, s, 0, api.ErrAsmMany)
	}
	refuses(t, "'"+most[1:], 1, api.ErrAsm)
}

func TestParseManyLines(t *testing.T) {
	feeds := strings.Repeat("\n", api.MaxLines)
	reads(t, feeds)
	reads(t, feeds[1:])
	reads(t, feeds[1:]+"a", line(api.MaxLines, "", word("a")))
	reads(t, feeds[1:]+"a\n", line(api.MaxLines, "", word("a")))
	reads(t, feeds[1:]+"a:# b", line(api.MaxLines, "a"))
	reads(t, "a"+feeds, line(1, "", word("a")))
	for _, behind := range []string{"a", " ", "\t", "#", "\n", "'", "\x00", "\n\n", "\na", "a\n"} {
		refuses(t, feeds+behind, 0, api.ErrAsmMany)
		refuses(t, "'"+feeds+behind, 0, api.ErrAsmMany)
	}
	var want []api.Line
	var all strings.Builder
	for i := range api.MaxLines {
		name := "l" + strconv.Itoa(i)
		want = append(want, line(i+1, name, word("nop")))
		all.WriteString(name + ": nop\n")
	}
	reads(t, all.String(), want...)
	reads(t, strings.TrimSuffix(all.String(), "\n"), want...)
	refuses(t, all.String()+"a", 0, api.ErrAsmMany)
}
