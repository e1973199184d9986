package expr

import (
	"math"
	"strconv"
	"strings"

	"dovetail/api"
)

// isName says whether a text is a symbol's name.
func isName(s string) bool {
	return s != "" && !isDigit(s[0]) && runLength(s) == len(s)
}

// runLength says how many bytes of a name or a number a text begins with.
func runLength(s string) int {
	for i := range len(s) {
		if !isLetter(s[i]) && !isDigit(s[i]) {
			return i
		}
	}
	return len(s)
}

// isLetter says whether a name may begin with c.
func isLetter(c byte) bool {
	return c >= 'A' && c <= 'Z' || c >= 'a' && c <= 'z' || c == '_' || c == '.' || c == '$'
}

func isDigit(c byte) bool { return c >= '0' && c <= '9' }

// numberOf gives the number that a text writes.
func numberOf(s string) (int, bool) {
	if digits, ok := strings.CutPrefix(s, "0x"); ok {
		return bitsOf(digits)
	}
	n, err := strconv.Atoi(s)
	// A number with noughts ahead is written otherwise.
	return n, err == nil && strconv.Itoa(n) == s
}

// bitsOf gives the number of the 64 bits that digits of four bits write.
func bitsOf(digits string) (int, bool) {
	n, err := strconv.ParseUint(digits, 16, 64)
	plain := len(digits) <= 16 && !strings.ContainsAny(digits, "ABCDEF")
	return int(n), err == nil && plain
}

// written gives the text of a normal sum.
func written(a api.Lin) string {
	var out strings.Builder
	for i, sym := range a.Syms {
		out.WriteString(numeral(a.Times[i]) + "*" + sym + "+")
	}
	out.WriteString(numeral(a.Off))
	return out.String()
}

// numeral writes a number so that it can be read: the least one's digits without its - would be too great.
func numeral(n int) string {
	if n == math.MinInt {
		return "0x8000000000000000"
	}
	return strconv.Itoa(n)
}
