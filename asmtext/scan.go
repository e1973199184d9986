package asmtext

import (
	"strings"

	"dovetail/api"
)

// scanner is a line that is being cut into tokens: the place of the next byte.
type scanner struct {
	line string
	at   int
}

// more goes past blanks and says whether something stands behind them that counts.
func (s *scanner) more() bool {
	for s.at < len(s.line) && isBlank(s.line[s.at]) {
		s.at++
	}
	return s.at < len(s.line) && s.line[s.at] != '#'
}

// token reads the token that begins at the next byte.
func (s *scanner) token() (api.Tok, bool) {
	from := s.at
	c := s.line[from]
	switch {
	case isWordByte(c):
		s.at += wordLength(s.line[from:])
		return api.Tok{Kind: api.TokWord, Text: strings.Clone(s.line[from:s.at])}, true
	case isSignByte(c):
		s.at++
		return api.Tok{Kind: api.TokSign, Text: strings.Clone(s.line[from:s.at])}, true
	case c == '"':
		s.at++
		return s.text()
	}
	return api.Tok{}, false
}

// text reads a text from behind its first " on.
func (s *scanner) text() (api.Tok, bool) {
	var out strings.Builder
	for s.at < len(s.line) && s.line[s.at] != '"' {
		b, n := byteOf(s.line[s.at:])
		if n == 0 {
			return api.Tok{}, false
		}
		out.WriteByte(b)
		s.at += n
	}
	if s.at == len(s.line) {
		return api.Tok{}, false
	}
	s.at++
	return api.Tok{Kind: api.TokText, Text: out.String()}, true
}

// byteOf gives the byte that s writes at its beginning, within a text, and how many bytes write it: none, if nothing is written so.
func byteOf(s string) (byte, int) {
	if isPlainByte(s[0]) {
		return s[0], 1
	}
	if s[0] != '\\' || len(s) < 2 {
		return 0, 0
	}
	switch s[1] {
	case 'n':
		return '\n', 2
	case 't':
		return '\t', 2
	case '0':
		return 0, 2
	case '\\', '"':
		return s[1], 2
	case 'x':
		return byteOfDigits(s[2:])
	}
	return 0, 0
}

// byteOfDigits gives the byte that the two digits behind an \x write, and how many bytes write it with these.
func byteOfDigits(s string) (byte, int) {
	if len(s) < 2 {
		return 0, 0
	}
	high, low := strings.IndexByte(hexDigits, s[0]), strings.IndexByte(hexDigits, s[1])
	if high < 0 || low < 0 {
		return 0, 0
	}
	return byte(high<<4 | low), 4
}
