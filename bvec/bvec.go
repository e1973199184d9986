// Package bvec is layer 1: see shared/doc/01-bvec.md.
package bvec

import "dovetail/api"

// Make: the lowest w bits of a value.
func Make(w int, hi, lo uint64) api.Bits {
	if w < 1 || w > api.MaxBits {
		return api.Bits{}
	}
	return cut(w, wide{hi, lo})
}

// FromInt: the lowest w bits of a number.
func FromInt(w, n int) api.Bits {
	a := fromInt(n)
	return Make(w, a.hi, a.lo)
}

// Normal: are they normal?
func Normal(a api.Bits) bool {
	return a.W >= 1 && a.W <= api.MaxBits && a == cut(a.W, value(a))
}

// Extract: the bits at some places.
func Extract(a api.Bits, hi, lo int) api.Bits {
	if !Normal(a) || lo < 0 || lo > hi || hi >= a.W {
		return api.Bits{}
	}
	return cut(hi-lo+1, value(a).shr(lo))
}

// Insert: bits with others at some places.
func Insert(a api.Bits, lo int, b api.Bits) api.Bits {
	// lo is held against the room, for lo + b.W might wrap round.
	if !Normal(a) || !Normal(b) || lo < 0 || lo > a.W-b.W {
		return api.Bits{}
	}
	rest := value(a).and(ones(b.W).shl(lo).not())
	return cut(a.W, rest.or(value(b).shl(lo)))
}

// Zext: the value in another width.
func Zext(a api.Bits, w int) api.Bits {
	if !Normal(a) {
		return api.Bits{}
	}
	return Make(w, a.Hi, a.Lo)
}

// Sext: the signed value in another width.
func Sext(a api.Bits, w int) api.Bits {
	if !Normal(a) {
		return api.Bits{}
	}
	s := signed(a)
	return Make(w, s.hi, s.lo)
}

// Un: an operation on one.
func Un(op int, a api.Bits) api.Bits {
	if !Normal(a) {
		return api.Bits{}
	}
	switch op {
	case api.OpNot:
		return cut(a.W, value(a).not())
	case api.OpNeg:
		return cut(a.W, value(a).neg())
	}
	return api.Bits{}
}

// Bin: an operation on two.
func Bin(op int, a, b api.Bits) api.Bits {
	if !Normal(a) || !Normal(b) {
		return api.Bits{}
	}
	switch op {
	case api.OpShl, api.OpShr, api.OpSar:
		return shift(op, a, b)
	case api.OpCat:
		return cat(a, b)
	}
	if a.W != b.W {
		return api.Bits{}
	}
	switch op {
	case api.OpAdd, api.OpSub, api.OpMul, api.OpAnd, api.OpOr, api.OpXor:
		return cut(a.W, reckon(op, value(a), value(b)))
	case api.OpDivu, api.OpRemu:
		return divide(op == api.OpDivu, a.W, value(a), value(b))
	case api.OpDivs, api.OpRems:
		return divideSigned(op == api.OpDivs, a.W, signed(a), signed(b))
	case api.OpEq:
		return truth(a == b)
	case api.OpLtu:
		return truth(value(a).less(value(b)))
	case api.OpLts:
		return truth(lessSigned(signed(a), signed(b)))
	}
	return api.Bits{}
}

// Int: the signed value.
func Int(a api.Bits) (int, bool) {
	if !Normal(a) {
		return 0, false
	}
	s := signed(a)
	n := int(s.lo)
	if s != fromInt(n) {
		return 0, false
	}
	return n, true
}

// FitsU: is the number one of w bits without sign?
func FitsU(n, w int) bool {
	return w >= 1 && n >= 0 && (w >= 64 || n>>w == 0)
}

// FitsS: is the number one of w bits with a sign?
func FitsS(n, w int) bool {
	if w < 1 {
		return false
	}
	// Every number has 64 bits: more width lets no other in.
	top := n >> min(w-1, 63)
	return top == 0 || top == -1
}

// cut keeps the lowest w bits; w is a width.
func cut(w int, a wide) api.Bits {
	a = a.and(ones(w))
	return api.Bits{W: w, Hi: a.hi, Lo: a.lo}
}

func value(a api.Bits) wide { return wide{a.Hi, a.Lo} }

// signed is the value with its sign going on through all 128 places.
func signed(a api.Bits) wide {
	v := value(a)
	if v.shl(128 - a.W).below0() {
		return v.or(ones(a.W).not())
	}
	return v
}

func fromInt(n int) wide {
	return wide{uint64(n >> 63), uint64(n)}
}

func truth(is bool) api.Bits {
	if is {
		return api.Bits{W: 1, Lo: 1}
	}
	return api.Bits{W: 1}
}

// reckon does what needs neither widths nor signs.
func reckon(op int, a, b wide) wide {
	switch op {
	case api.OpAdd:
		return a.add(b)
	case api.OpSub:
		return a.sub(b)
	case api.OpMul:
		return a.mul(b)
	case api.OpAnd:
		return a.and(b)
	case api.OpOr:
		return a.or(b)
	}
	return a.xor(b)
}

// shift moves a by the value of b, as far as a is wide.
func shift(op int, a, b api.Bits) api.Bits {
	n := a.W
	if b.Hi == 0 && b.Lo < uint64(a.W) {
		n = int(b.Lo)
	}
	switch op {
	case api.OpShl:
		return cut(a.W, value(a).shl(n))
	case api.OpShr:
		return cut(a.W, value(a).shr(n))
	}
	s := signed(a)
	down := s.shr(n)
	if s.below0() {
		down = down.or(ones(128 - n).not())
	}
	return cut(a.W, down)
}

// cat lays b below a.
func cat(a, b api.Bits) api.Bits {
	if a.W+b.W > api.MaxBits {
		return api.Bits{}
	}
	return cut(a.W+b.W, value(a).shl(b.W).or(value(b)))
}

// divide answers the quotient or the rest of values.
func divide(quotient bool, w int, a, b wide) api.Bits {
	q, r := ones(w), a
	if b != (wide{}) {
		q, r = a.quoRem(b)
	}
	if quotient {
		return cut(w, q)
	}
	return cut(w, r)
}

// divideSigned answers the quotient or the rest of signed values.
func divideSigned(quotient bool, w int, a, b wide) api.Bits {
	if b == (wide{}) {
		return divide(quotient, w, a, b)
	}
	q, r := a.abs().quoRem(b.abs())
	if a.below0() != b.below0() {
		q = q.neg()
	}
	if a.below0() {
		r = r.neg()
	}
	if quotient {
		return cut(w, q)
	}
	return cut(w, r)
}

func lessSigned(a, b wide) bool {
	if a.below0() != b.below0() {
		return a.below0()
	}
	return a.less(b)
}
