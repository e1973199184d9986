package codec

import (
	"dovetail/api"
	"dovetail/isacheck"
)

// isLiteral is the operand of a piece that has none.
const isLiteral = -1

// form is what a form's pattern says: the places of all literals 0 and 1, those of the literals 1, and those of its operands.
type form struct {
	size           int
	literals, ones words
	canonical      bool
	operands       []operand
}

// operand is an operand's class, and the places of its bits, the lowest first.
type operand struct {
	class int
	at    []int
}

// lay says where the bits of a form of a right description lie.
func lay(d api.Desc, n int) form {
	f := form{size: isacheck.Size(d, n), canonical: true}
	for _, a := range d.Forms[n].Args {
		f.operands = append(f.operands, operand{a.Class, make([]int, d.Classes[a.Class].Bits)})
	}
	written := 0
	for _, p := range d.Forms[n].Pieces {
		for b := range pieceBits(p) {
			f.put(p, b, placeOf(d.Order, written, 8*f.size))
			written++
		}
	}
	return f
}

// pieceBits is how many bits a piece has.
func pieceBits(p api.Piece) int {
	if p.Arg == isLiteral {
		return len(p.Lit)
	}
	return p.Hi - p.Lo + 1
}

// put lays a bit of a piece, told from the one that is written first on, at a place.
func (f *form) put(p api.Piece, b, place int) {
	if p.Arg != isLiteral {
		f.operands[p.Arg].at[p.Hi-b] = place
		return
	}
	switch p.Lit[b] {
	case 'x':
		f.canonical = false
	case '1':
		f.ones.set(place)
		f.literals.set(place)
	default:
		f.literals.set(place)
	}
}

// placeOf is the place of one of a form's bits, told from the one that is written first on.
func placeOf(order, written, bits int) int {
	if order == api.OrderWord {
		return bits - 1 - written
	}
	return written/8*8 + 7 - written%8
}
