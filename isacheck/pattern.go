package isacheck

import (
	"strings"

	"dovetail/api"
)

// isLiteral is the operand of a piece that has none.
const isLiteral = -1

// patternBits is how many bits a form has; 0, if its pattern isn't right.
func patternBits(d api.Desc, f api.Form) int {
	if !operandsRight(d, f) {
		return 0
	}
	bits := 0
	var seen [api.MaxArgs]uint64
	for _, p := range f.Pieces {
		n := pieceBits(d, f, p)
		if n == 0 {
			return 0
		}
		bits += n
		if p.Arg == isLiteral {
			continue
		}
		if seen[p.Arg]&pieceMask(p) != 0 {
			return 0
		}
		seen[p.Arg] |= pieceMask(p)
	}
	for n, a := range f.Args {
		if seen[n] != lowest(d.Classes[a.Class].Bits) {
			return 0
		}
	}
	if bits%8 != 0 || bits > 8*api.MaxCode {
		return 0
	}
	return bits
}

// operandsRight says whether a form has no more operands than it may, each of a class that is right.
func operandsRight(d api.Desc, f api.Form) bool {
	if len(f.Args) > api.MaxArgs {
		return false
	}
	for _, a := range f.Args {
		if !classRight(d, a.Class) {
			return false
		}
	}
	return true
}

// pieceBits is how many bits a piece of a form with right operands has; 0, if it isn't right.
func pieceBits(d api.Desc, f api.Form, p api.Piece) int {
	if p.Arg == isLiteral {
		if strings.Trim(p.Lit, "01x") != "" {
			return 0
		}
		return len(p.Lit)
	}
	if !isPlace(p.Arg, f.Args) || p.Lo < 0 || p.Lo > p.Hi || p.Hi >= d.Classes[f.Args[p.Arg].Class].Bits {
		return 0
	}
	return p.Hi - p.Lo + 1
}

// pieceMask has the bits of its operand that a piece has.
func pieceMask(p api.Piece) uint64 { return lowest(p.Hi-p.Lo+1) << p.Lo }

// lowest has the lowest n bits (1 to 64).
func lowest(n int) uint64 { return ^uint64(0) >> (64 - n) }
