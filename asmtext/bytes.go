package asmtext

import "strings"

// hexDigits are the digits of four bits, each at its value's place.
const hexDigits = "0123456789abcdef"

// isName says whether a text is a name of layer 12.
func isName(s string) bool { return isWord(s) && !isDigit(s[0]) }

// isWord says whether a text is a word, and nothing beside.
func isWord(s string) bool { return s != "" && wordLength(s) == len(s) }

// wordLength says how many bytes of a word a text begins with.
func wordLength(s string) int {
	for i := range len(s) {
		if !isWordByte(s[i]) {
			return i
		}
	}
	return len(s)
}

func isWordByte(c byte) bool {
	return c >= 'A' && c <= 'Z' || c >= 'a' && c <= 'z' || isDigit(c) || c == '_' || c == '.' || c == '$'
}

func isDigit(c byte) bool { return c >= '0' && c <= '9' }

func isSignByte(c byte) bool { return strings.IndexByte("()[]+-*,:%", c) >= 0 }

func isBlank(c byte) bool { return c == ' ' || c == '\t' }

// isPlainByte says whether a byte stands for itself within a text.
func isPlainByte(c byte) bool { return c >= ' ' && c <= '~' && c != '"' && c != '\\' }
