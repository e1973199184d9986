package calc

import (
	"bytes"
	"slices"

	"dovetail/api"
	"dovetail/bvec"
)

// The places of a value's bits that a pair's instructions have: the first one's, the second one's.
const (
	highTop = 31
	highLow = 12
	lowTop  = 11
	lowLow  = 0
)

// class is what an operand's value is made from its encoded bits by.
type class struct {
	kind, bits, shift, plus int
}

// value is what encoded bits make.
func (c class) value(encoded api.Bits) int {
	encoded = bvec.Zext(encoded, c.bits)
	n := int(encoded.Lo)
	if c.kind != api.ClassReg && c.kind != api.ClassUns {
		n, _ = bvec.Int(encoded)
	}
	return n<<c.shift + c.plus
}

// classesOf are the classes of a form's operands.
func classesOf(f api.Form) []int {
	var l []int
	for _, a := range f.Args {
		l = append(l, a.Class)
	}
	return l
}

// insn is the bytes with a value put into an instruction's operand.
func (p *Patcher) insn(x api.Rel, b []byte, at, v int) ([]byte, api.Errno) {
	out := bytes.Clone(b)
	if _, e := p.fill(out, at, x.Class, bitsOf(v+x.Round, x.Hi, x.Lo)); e != api.OK {
		return nil, e
	}
	return out, api.OK
}

// pair is the bytes with a value put into the operands of two instructions.
func (p *Patcher) pair(x api.Rel, b []byte, at, v int) ([]byte, api.Errno) {
	out := bytes.Clone(b)
	size, e := p.fill(out, at, x.Class, bitsOf(v+x.Round, highTop, highLow))
	if e != api.OK {
		return nil, e
	}
	// Only the first one's bits are rounded, for the sign that the second one's may have.
	if _, e := p.fill(out, at+size, x.Class2, bitsOf(v, lowTop, lowLow)); e != api.OK {
		return nil, e
	}
	return out, api.OK
}

// bitsOf are those of a number at the places lo to hi.
func bitsOf(n, hi, lo int) api.Bits { return bvec.Extract(bvec.FromInt(allBits, n), hi, lo) }

// fill writes over the instruction at a place, with other bits of its first operand of a class, and answers its size.
func (p *Patcher) fill(b []byte, at, class int, encoded api.Bits) (int, api.Errno) {
	if at < 0 || at > len(b) {
		return 0, api.ErrRelInsn
	}
	in, size, e := p.codec.Decode(b[at:])
	if e != api.OK {
		return 0, api.ErrRelInsn
	}
	n := slices.Index(p.operands[in.Form], class)
	if n < 0 {
		return 0, api.ErrRelInsn
	}
	in.Vals[n] = p.classes[class].value(encoded)
	code, e := p.codec.Encode(in)
	if e != api.OK {
		return 0, e
	}
	copy(b[at:], code)
	return size, api.OK
}
