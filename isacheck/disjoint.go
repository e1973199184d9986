package isacheck

import (
	"slices"

	"dovetail/api"
)

// places are some of the places of a form's bits: the bit b of the byte n is the place 8 n + b.
type places [2]uint64

func (p *places) add(at int) { p[at/64] |= 1 << (at % 64) }

func (p places) has(at int) bool { return p[at/64]>>(at%64)&1 == 1 }

func (p places) meet(q places) bool { return p[0]&q[0] != 0 || p[1]&q[1] != 0 }

// layout is where a form's bits lie: those that are 0, those that are 1, and those of its operands.
type layout struct {
	noughts, ones places
	operands      []operand
}

// operand is an operand's class, and where its bits lie, the lowest first.
type operand struct {
	class api.Class
	at    []int
}

// lay says where the bits of a form lie, the pattern of which is right.
func lay(d api.Desc, f api.Form) layout {
	var l layout
	for _, a := range f.Args {
		c := d.Classes[a.Class]
		l.operands = append(l.operands, operand{c, make([]int, c.Bits)})
	}
	bits, written := patternBits(d, f), 0
	for _, p := range f.Pieces {
		for b := pieceBits(d, f, p) - 1; b >= 0; b-- {
			l.put(p, b, placeOf(d.Order, written, bits))
			written++
		}
	}
	return l
}

// put lays a bit of a piece, told from the piece's lowest on, at a place.
func (l *layout) put(p api.Piece, b, at int) {
	if p.Arg != isLiteral {
		l.operands[p.Arg].at[p.Lo+b] = at
		return
	}
	switch p.Lit[len(p.Lit)-1-b] {
	case '0':
		l.noughts.add(at)
	case '1':
		l.ones.add(at)
	}
}

// placeOf is the place of one of a form's bits, told from the one that is written first on.
func placeOf(order, written, bits int) int {
	if order == api.OrderWord {
		return bits - 1 - written
	}
	return written/8*8 + 7 - written%8
}

// firstClash is the first form that isn't disjoint from one ahead of it, if there is one.
func firstClash(d api.Desc) (int, bool) {
	var ahead []layout
	for n, f := range d.Forms {
		l := lay(d, f)
		for _, other := range ahead {
			if !apart(other, l) {
				return n, true
			}
		}
		ahead = append(ahead, l)
	}
	return 0, false
}

// apart says whether two forms are disjoint.
func apart(a, b layout) bool {
	return a.noughts.meet(b.ones) || a.ones.meet(b.noughts) || excludes(a, b) || excludes(b, a)
}

// excludes says whether the literals of b make a value of an operand of a that its class excepts.
func excludes(a, b layout) bool {
	for _, o := range a.operands {
		bits, fixed := b.literalBits(o.at)
		if fixed && slices.Contains(o.class.Except, valueOf(o.class, bits)) {
			return true
		}
	}
	return false
}

// literalBits are the bits at some places, the lowest first, if all of them are 0 or 1.
func (l layout) literalBits(at []int) (uint64, bool) {
	var bits uint64
	for n, p := range at {
		switch {
		case l.ones.has(p):
			bits |= 1 << n
		case !l.noughts.has(p):
			return 0, false
		}
	}
	return bits, true
}

// valueOf is the value that encoded bits make.
func valueOf(c api.Class, bits uint64) int {
	switch c.Kind {
	case api.ClassReg:
		return c.Plus + int(bits)
	case api.ClassUns:
		return int(bits) << c.Shift
	}
	unused := 64 - c.Bits
	return int(bits<<unused) >> unused << c.Shift
}
