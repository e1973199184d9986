package bvec

import "math/bits"

// wide is a number of 128 places, reckoned modulo 2^128.
type wide struct {
	hi, lo uint64
}

// ones has its lowest n places set, n from 0 to 128.
func ones(n int) wide {
	return wide{}.not().shr(128 - n)
}

func (a wide) not() wide { return wide{^a.hi, ^a.lo} }

func (a wide) and(b wide) wide { return wide{a.hi & b.hi, a.lo & b.lo} }

func (a wide) or(b wide) wide { return wide{a.hi | b.hi, a.lo | b.lo} }

func (a wide) xor(b wide) wide { return wide{a.hi ^ b.hi, a.lo ^ b.lo} }

func (a wide) add(b wide) wide {
	lo, carry := bits.Add64(a.lo, b.lo, 0)
	hi, _ := bits.Add64(a.hi, b.hi, carry)
	return wide{hi, lo}
}

func (a wide) sub(b wide) wide {
	lo, borrow := bits.Sub64(a.lo, b.lo, 0)
	hi, _ := bits.Sub64(a.hi, b.hi, borrow)
	return wide{hi, lo}
}

func (a wide) neg() wide { return wide{}.sub(a) }

func (a wide) mul(b wide) wide {
	hi, lo := bits.Mul64(a.lo, b.lo)
	return wide{hi + a.hi*b.lo + a.lo*b.hi, lo}
}

func (a wide) less(b wide) bool {
	if a.hi != b.hi {
		return a.hi < b.hi
	}
	return a.lo < b.lo
}

// shl moves up by n places, n from 0 on.
func (a wide) shl(n int) wide {
	if n >= 64 {
		return wide{a.lo << (n - 64), 0}
	}
	return wide{a.hi<<n | a.lo>>(64-n), a.lo << n}
}

// shr moves down by n places, n from 0 on.
func (a wide) shr(n int) wide {
	if n >= 64 {
		return wide{0, a.hi >> (n - 64)}
	}
	return wide{a.hi >> n, a.lo>>n | a.hi<<(64-n)}
}

// below0 says whether the sign's place is set.
func (a wide) below0() bool { return a.hi>>63 != 0 }

func (a wide) abs() wide {
	if a.below0() {
		return a.neg()
	}
	return a
}

// quoRem is quotient and rest without signs; b isn't nought.
func (a wide) quoRem(b wide) (wide, wide) {
	if b.hi == 0 {
		q, r := bits.Div64(a.hi%b.lo, a.lo, b.lo)
		return wide{a.hi / b.lo, q}, wide{0, r}
	}
	q, r := wide{}, a
	// A divisor of more than 64 places leaves a quotient of less than 2^64, whose places are found one by one.
	for n := bits.LeadingZeros64(b.hi); n >= 0; n-- {
		if d := b.shl(n); !r.less(d) {
			r = r.sub(d)
			q.lo |= 1 << n
		}
	}
	return q, r
}
