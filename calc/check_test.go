package calc_test

import (
	"math"
	"math/big"
	"strconv"
	"testing"

	"dovetail/api"
	"dovetail/calc"
)

// P11.2

// checks holds what Check answers of values.
func checks(t *testing.T, p *calc.Patcher, what string, want api.Errno, values ...int) {
	t.Helper()
	for _, v := range values {
		if e := p.Check(0, v); e != want {
			t.Errorf("%s: %d: %v, not %v", what, v, e, want)
		}
	}
}

func TestCheckSigned(t *testing.T) {
	p := of("data 8 S (signed 8)")
	checks(t, p, "signed", api.OK, 0, 1, 127, -1, -128)
	checks(t, p, "signed", api.ErrRelRange, 128, 255, 256, -129, -256, 1<<32, 1<<63-1, math.MinInt, -1<<32+5, 1<<40+1)
	checks(t, of("data 8 S (signed 1)"), "one bit", api.OK, 0, -1)
	checks(t, of("data 8 S (signed 1)"), "one bit", api.ErrRelRange, 1, -2, 2, math.MinInt, math.MaxInt)
	checks(t, of("data 8 S (signed 63)"), "63 bits", api.OK, 1<<62-1, -1<<62)
	checks(t, of("data 8 S (signed 63)"), "63 bits", api.ErrRelRange, 1<<62, -1<<62-1, math.MinInt, math.MaxInt)
}

func TestCheckUnsigned(t *testing.T) {
	p := of("data 8 S (unsigned 8)")
	checks(t, p, "unsigned", api.OK, 0, 1, 127, 128, 255)
	checks(t, p, "unsigned", api.ErrRelRange, -1, -128, 256, 257, 1<<32, math.MinInt, math.MaxInt, 1<<40+1)
	checks(t, of("data 8 S (unsigned 1)"), "one bit", api.OK, 0, 1)
	checks(t, of("data 8 S (unsigned 1)"), "one bit", api.ErrRelRange, 2, -1, math.MinInt, math.MaxInt)
	checks(t, of("data 8 S (unsigned 63)"), "63 bits", api.OK, 0, math.MaxInt)
	checks(t, of("data 8 S (unsigned 63)"), "63 bits", api.ErrRelRange, -1, math.MinInt)
}

func TestCheckEither(t *testing.T) {
	p := of("data 8 S (either 8)")
	checks(t, p, "either", api.OK, 0, 1, 127, 128, 255, -1, -128)
	checks(t, p, "either", api.ErrRelRange, -129, 256, -256, math.MinInt, math.MaxInt)
	checks(t, of("data 8 S (either 1)"), "one bit", api.OK, 0, 1, -1)
	checks(t, of("data 8 S (either 1)"), "one bit", api.ErrRelRange, 2, -2)
	checks(t, of("data 8 S (either 63)"), "63 bits", api.OK, 0, math.MaxInt, -1<<62)
	checks(t, of("data 8 S (either 63)"), "63 bits", api.ErrRelRange, -1<<62-1, math.MinInt)
}

// TestCheckAll: any number is one of 64 bits, with a sign and without.
func TestCheckAll(t *testing.T) {
	for _, check := range []string{"signed", "unsigned", "either"} {
		for _, round := range []string{"", " (round 1)", " (round 4294967296)"} {
			checks(t, of("data 8 S ("+check+" 64)"+round), check+round, api.OK, append([]int{0, 1, -1}, far...)...)
		}
	}
	checks(t, of("data 8 S"), "no check", api.OK, append([]int{0, 1, -1}, far...)...)
	checks(t, of("data 8 S (round 2048)"), "no check, round", api.OK, append([]int{0, 1, -1}, far...)...)
}

// TestCheckUnasked: without Sign any Width counts nothing.
func TestCheckUnasked(t *testing.T) {
	d := toy()
	for _, width := range append([]int{0, 1, 8, 63, 64, 65, -1}, far...) {
		d.Rels[relData].Sign, d.Rels[relData].Width, d.Rels[relData].Align = 0, width, 0
		p := made(d)
		for _, v := range append([]int{0, 1, -1}, far...) {
			if e := p.Check(relData, v); e != api.OK {
				t.Error(width, v, e)
			}
		}
	}
}

// TestCheckRound: the range is asked of the value and Round, modulo 2^64.
func TestCheckRound(t *testing.T) {
	p := of("data 8 S (signed 8) (round 8)")
	checks(t, p, "signed", api.OK, 0, 119, -136)
	checks(t, p, "signed", api.ErrRelRange, 120, 127, -137, math.MaxInt, math.MinInt)
	p = of("data 8 S (unsigned 8) (round 8)")
	checks(t, p, "unsigned", api.OK, 0, 247, -8)
	checks(t, p, "unsigned", api.ErrRelRange, 248, 255, -9, math.MaxInt, math.MinInt)
	p = of("data 8 S (either 8) (round 8)")
	checks(t, p, "either", api.OK, 0, 247, -136)
	checks(t, p, "either", api.ErrRelRange, 248, -137, math.MaxInt, math.MinInt)
	checks(t, of("data 8 S (unsigned 63) (round 1)"), "wrapped below 0", api.ErrRelRange, math.MaxInt)
	checks(t, of("data 8 S (unsigned 63) (round 1)"), "up to 0", api.OK, -1, math.MaxInt-1)
	checks(t, of("data 8 S (signed 63) (round 4294967296)"), "wrapped", api.ErrRelRange, math.MaxInt)
	checks(t, of("data 8 S (signed 32) (round 2048)"), "a pair", api.OK, 1<<31-2049, -1<<31-2048)
	checks(t, of("data 8 S (signed 32) (round 2048)"), "a pair", api.ErrRelRange, 1<<31-2048, -1<<31-2049)
	checks(t, of("data 8 S (unsigned 8) (round 4294967296)"), "the greatest", api.OK, -1<<32, -1<<32+255)
	checks(t, of("data 8 S (unsigned 8) (round 4294967296)"), "the greatest", api.ErrRelRange, -1<<32-1, -1<<32+256, 0)
}

// TestCheckAlign: asked of the value alone, without Round.
func TestCheckAlign(t *testing.T) {
	for n := range 31 {
		for _, round := range []string{"", " (round 1)", " (round 2048)"} {
			p := of("data 8 S (align " + strconv.Itoa(n) + ")" + round)
			step := 1 << n
			checks(t, p, "multiples", api.OK, 0, step, -step, 3*step, -5*step, math.MinInt, math.MinInt+step, 1<<40)
			if n == 0 {
				checks(t, p, "any", api.OK, 1, -1, math.MaxInt, math.MinInt+1)
				continue
			}
			checks(t, p, "no multiples", api.ErrRelAlign, 1, -1, step-1, step+1, -step+1, -step-1, step/2, 3*step/2, math.MaxInt, math.MinInt+1, math.MinInt+step/2)
		}
	}
}

// TestCheckBoth: the range comes ahead of the alignment.
func TestCheckBoth(t *testing.T) {
	p := of("data 8 S (signed 8) (align 2)")
	checks(t, p, "right", api.OK, 0, 4, 124, -4, -128)
	checks(t, p, "aligned", api.ErrRelRange, 128, -132)
	checks(t, p, "in range", api.ErrRelAlign, 1, 2, 126, 127, -1, -127)
	checks(t, p, "neither", api.ErrRelRange, 129, 130, -129, math.MaxInt)
	p = of("data 8 S (unsigned 3) (align 2) (round 1)")
	checks(t, p, "rounded", api.OK, 0, 4)
	checks(t, p, "rounded", api.ErrRelAlign, -1, 1, 6)
	checks(t, p, "rounded", api.ErrRelRange, 7, -2, 8, -4)
}

// TestCheckKinds: the checks are those of the relocation, whatever its kind.
func TestCheckKinds(t *testing.T) {
	d := toy()
	for rel := range rels {
		d.Rels[rel].Sign, d.Rels[rel].Width, d.Rels[rel].Align, d.Rels[rel].Round = 2, 4, 1, 1
	}
	p := made(d)
	for rel := range rels {
		for v, want := range map[int]api.Errno{-2: api.ErrRelRange, -1: api.ErrRelAlign, 0: 0, 7: api.ErrRelAlign, 14: 0, 15: api.ErrRelRange, 16: api.ErrRelRange} {
			if e := p.Check(rel, v); e != want {
				t.Error(rel, v, e, want)
			}
		}
	}
}

// slowCheck is Check by numbers of any size.
func slowCheck(x api.Rel, v int) api.Errno {
	span := new(big.Int).Lsh(big.NewInt(1), 64)
	w := new(big.Int).Add(big.NewInt(int64(v)), big.NewInt(int64(x.Round)))
	w.Mod(w, span)
	plain := new(big.Int).Set(w)
	if w.Bit(63) == 1 {
		w.Sub(w, span)
	}
	top := new(big.Int).Lsh(big.NewInt(1), uint(max(x.Width, 1)))
	half := new(big.Int).Rsh(top, 1)
	fitsU := plain.Cmp(top) < 0
	fitsS := w.Cmp(half) < 0 && w.Cmp(new(big.Int).Neg(half)) >= 0
	switch {
	case x.Sign == 1 && !fitsS, x.Sign == 2 && !fitsU, x.Sign == 3 && !fitsS && !fitsU:
		return api.ErrRelRange
	case new(big.Int).Mod(big.NewInt(int64(v)), new(big.Int).Lsh(big.NewInt(1), uint(x.Align))).Sign() != 0:
		return api.ErrRelAlign
	}
	return api.OK
}

// TestCheckWidths holds all widths against the slower reading, about their bounds.
func TestCheckWidths(t *testing.T) {
	d := toy()
	x := &d.Rels[relData]
	for sign := 0; sign <= 3; sign++ {
		for width := 1; width <= 64; width++ {
			for _, round := range []int{0, 1, 2048, 1<<32 - 1, 1 << 32} {
				x.Sign, x.Width, x.Round, x.Align = sign, width, round, width%3
				p := made(d)
				for _, bound := range []int{0, 1 << (width - 1), -1 << (width - 1), 1 << (width % 64), math.MinInt} {
					for v := bound - round - 3; v != bound-round+4; v++ {
						if e, want := p.Check(relData, v), slowCheck(*x, v); e != want {
							t.Fatalf("%+v: %d: %v, not %v", *x, v, e, want)
						}
					}
				}
			}
		}
	}
}
