package asmtext

import (
	"strings"

	"dovetail/api"
)

// writeLine writes a line, with a line feed behind it.
func writeLine(out *strings.Builder, line api.Line) {
	for _, label := range line.Labels {
		out.WriteString(label + ": ")
	}
	writeToks(out, line.Toks)
	out.WriteByte('\n')
}

// writeToks writes tokens, with a blank between two of them.
func writeToks(out *strings.Builder, l []api.Tok) {
	for i, t := range l {
		if i > 0 {
			out.WriteByte(' ')
		}
		writeTok(out, t)
	}
}

// writeTok writes a token.
func writeTok(out *strings.Builder, t api.Tok) {
	if t.Kind != api.TokText {
		out.WriteString(t.Text)
		return
	}
	out.WriteByte('"')
	for i := range len(t.Text) {
		writeByte(out, t.Text[i])
	}
	out.WriteByte('"')
}

// writeByte writes a byte of a text.
func writeByte(out *strings.Builder, c byte) {
	if isPlainByte(c) {
		out.WriteByte(c)
		return
	}
	out.WriteString("\\x")
	out.WriteByte(hexDigits[c>>4])
	out.WriteByte(hexDigits[c&15])
}

// fit says whether no line has too many tokens, and all of them as a text haven't too many bytes. They are counted ahead of being written: a single token may be far longer than a text.
func fit(l []api.Line) bool {
	size, no := 0, 0
	for _, line := range l {
		if 2*len(line.Labels)+len(line.Toks) > api.MaxToks {
			return false
		}
		size += line.No - no + lineSize(line)
		no = line.No
	}
	return size <= api.MaxAsm
}

// lineSize says how many bytes write a line, without its line feed.
func lineSize(line api.Line) int {
	n := max(0, len(line.Toks)-1)
	for _, label := range line.Labels {
		n += len(label) + len(": ")
	}
	for _, t := range line.Toks {
		n += tokSize(t)
	}
	return n
}

// tokSize says how many bytes write a token.
func tokSize(t api.Tok) int {
	if t.Kind != api.TokText {
		return len(t.Text)
	}
	n := len(`""`)
	for i := range len(t.Text) {
		if isPlainByte(t.Text[i]) {
			n++
		} else {
			n += len(`\x00`)
		}
	}
	return n
}
