package isacheck_test

import (
	"math"
	"strconv"
	"strings"
	"testing"

	"dovetail/api"
	"dovetail/isacheck"
)

// apart holds whether two forms are disjoint, both ways round, and what Check says of them; the description must be right but for that.
func apart(t *testing.T, what string, d api.Desc, want bool) {
	t.Helper()
	if isacheck.Disjoint(d, 0, 1) != want || isacheck.Disjoint(d, 1, 0) != want {
		t.Errorf("%s: %v %v, not %v", what, isacheck.Disjoint(d, 0, 1), isacheck.Disjoint(d, 1, 0), want)
	}
	place, e := 0, api.OK
	if !want {
		place, e = 1, api.ErrClash
	}
	checks(t, what, d, place, e)
}

// two is a description of two forms that have literals alone.
func two(order int, a, b string) api.Desc {
	return api.Desc{Order: order, Forms: []api.Form{{Pieces: []api.Piece{lit(a)}}, {Pieces: []api.Piece{lit(b)}}}}
}

// P5.5

// only is n bits, all x but the s-th.
func only(n, s int, bit string) string {
	return strings.Repeat("x", s) + bit + strings.Repeat("x", n-1-s)
}

// byteAndBit is where the s-th of n bits lies.
func byteAndBit(order, s, n int) [2]int {
	if order == api.OrderWord {
		w := n - 1 - s
		return [2]int{w / 8, w % 8}
	}
	return [2]int{s / 8, 7 - s%8}
}

// TestPlacesOfBits: two forms, each of one bit that isn't x, are disjoint if these bits lie at one place.
func TestPlacesOfBits(t *testing.T) {
	sizes := []int{8, 16, 24, 56, 64, 72, 120}
	for _, order := range append([]int{0, 1, 2, 3, -1}, far...) {
		if order < 0 || order > 2 {
			sizes = []int{8, 24, 72}
		}
		for _, n := range sizes {
			for _, m := range sizes {
				for s := range n {
					for u := range m {
						d := two(order, only(n, s, "0"), only(m, u, "1"))
						want := byteAndBit(order, s, n) == byteAndBit(order, u, m)
						if isacheck.Disjoint(d, 0, 1) != want || isacheck.Disjoint(d, 1, 0) != want {
							t.Fatalf("order %d: bit %d of %d, bit %d of %d: not %v", order, s, n, u, m, want)
						}
					}
				}
			}
		}
	}
}

// TestPlacesOfOperands: an operand's bits are written from its highest on. The operand excepts the value in which the bit b alone is 1.
func TestPlacesOfOperands(t *testing.T) {
	for _, order := range []int{api.OrderWord, api.OrderBytes} {
		for b := range 12 {
			d := two(order, "", "")
			d.Classes = []api.Class{{Kind: api.ClassUns, Bits: 12, Except: []int{1 << b}}}
			// The bits from the first written on are those of the places 3 to 0, 11 to 7, 4 to 6 of the operand.
			d.Forms[0] = api.Form{Args: ofClasses(0), Pieces: []api.Piece{bits(0, 3, 0), lit("11"), bits(0, 11, 7), lit("10"), bits(0, 4, 4), bits(0, 5, 5), bits(0, 6, 6)}}
			written := []int{3, 2, 1, 0, -1, -1, 11, 10, 9, 8, 7, -1, -1, 4, 5, 6}
			s := ""
			for _, w := range written {
				switch w {
				case -1:
					s += "x"
				case b:
					s += "1"
				default:
					s += "0"
				}
			}
			d.Forms[1].Pieces = []api.Piece{lit(s)}
			apart(t, strconv.Itoa(b), d, true)
			for n, w := range written {
				if w < 0 {
					continue
				}
				for _, other := range []string{"x", "0", "1"} {
					if other != s[n:n+1] {
						d.Forms[1].Pieces = []api.Piece{lit(s[:n] + other + s[n+1:])}
						apart(t, strconv.Itoa(b)+" "+other, d, false)
					}
				}
			}
		}
	}
}

// TestOrdersByHand: a form of one byte and one of two.
func TestOrdersByHand(t *testing.T) {
	apart(t, "bytes", two(api.OrderBytes, "00000000", "xxxxxxx1xxxxxxxx"), true)
	apart(t, "bytes", two(api.OrderBytes, "00000000", "0000000011111111"), false)
	apart(t, "word", two(api.OrderWord, "00000000", "xxxxxxx1xxxxxxxx"), false)
	apart(t, "word", two(api.OrderWord, "00000000", "0000000011111111"), true)
	apart(t, "word", two(api.OrderWord, "00000000", "xxxxxxxxxxxxxxx1"), true)
	apart(t, "word, four bytes", two(api.OrderWord, "xxxxxxxxxxxxxx01", "xxxxxxxxxxxxxxxxxxxxxxxxxxxxxx11"), true)
	apart(t, "bytes, four bytes", two(api.OrderBytes, "xxxxxxxxxxxxxx01", "xxxxxxxxxxxxxxxxxxxxxxxxxxxxxx11"), false)
	apart(t, "bytes, four bytes", two(api.OrderBytes, "xxxxxxxxxxxxxx01", "xxxxxxxxxxxxxx1xxxxxxxxxxxxxxxxx"), true)
}

// P5.6

// TestOneBit: forms that differ in one bit, and in none.
func TestOneBit(t *testing.T) {
	for _, order := range []int{api.OrderWord, api.OrderBytes} {
		for _, n := range []int{8, 16, 64, 72, 120} {
			for s := range n {
				zeros, ones := strings.Repeat("0", n), strings.Repeat("1", n)
				apart(t, "a 1 among 0", two(order, zeros, zeros[s+1:]+"1"+zeros[:s]), true)
				apart(t, "a 0 among 1", two(order, ones, ones[s+1:]+"0"+ones[:s]), true)
				apart(t, "an x among 0", two(order, zeros, zeros[s+1:]+"x"+zeros[:s]), false)
				apart(t, "one x among 0", two(order, zeros, only(n, s, "0")), false)
				apart(t, "one x among 1", two(order, ones, only(n, s, "1")), false)
			}
			apart(t, "nothing but x", two(order, strings.Repeat("x", n), strings.Repeat("01x0", n/4)), false)
			apart(t, "the same", two(order, strings.Repeat("01", n/2), strings.Repeat("01", n/2)), false)
		}
	}
}

// TestBitsBehind: what one form has behind the other's end is nothing to it.
func TestBitsBehind(t *testing.T) {
	for n := 8; n < 120; n += 8 {
		for _, rest := range []string{"0", "1", "x"} {
			apart(t, strconv.Itoa(n), two(api.OrderBytes, strings.Repeat("0", n), strings.Repeat("0", n)+strings.Repeat(rest, 8)), false)
			apart(t, strconv.Itoa(n), two(api.OrderWord, strings.Repeat("0", n), strings.Repeat(rest, 8)+strings.Repeat("0", n)), false)
		}
	}
}

// TestOperandsAgainstLiterals: the bits of an operand are neither 0 nor 1.
func TestOperandsAgainstLiterals(t *testing.T) {
	for _, s := range []string{"00000000", "11111111", "01010101", "xxxxxxxx"} {
		d := patterned(ofClasses(classNx), bits(0, 7, 0))
		d.Forms = append(d.Forms, api.Form{Pieces: []api.Piece{lit(s)}})
		apart(t, s, d, false)
	}
	d := patterned(ofClasses(classNx), bits(0, 7, 0))
	d.Forms = append(d.Forms, d.Forms[0])
	apart(t, "two operands", d, false)
	d = patterned(ofClasses(classR), bits(0, 1, 0), lit("000000"))
	d.Forms = append(d.Forms, api.Form{Args: ofClasses(classR), Pieces: []api.Piece{lit("110000"), bits(0, 1, 0)}})
	apart(t, "a literal bit against an operand's", d, false)
	d.Forms[1].Pieces = []api.Piece{lit("xx1000"), bits(0, 1, 0)}
	apart(t, "a literal bit beside operands", d, true)
}

// kinds are classes of three bits, and the values of their bits from 0 to 7.
var kinds = []struct {
	class  api.Class
	values [8]int
}{
	{api.Class{Kind: api.ClassReg, Bits: 3}, [8]int{0, 1, 2, 3, 4, 5, 6, 7}},
	{api.Class{Kind: api.ClassReg, Bits: 3, Plus: 8}, [8]int{8, 9, 10, 11, 12, 13, 14, 15}},
	{api.Class{Kind: api.ClassUns, Bits: 3}, [8]int{0, 1, 2, 3, 4, 5, 6, 7}},
	{api.Class{Kind: api.ClassUns, Bits: 3, Shift: 2}, [8]int{0, 4, 8, 12, 16, 20, 24, 28}},
	{api.Class{Kind: api.ClassUns, Bits: 3, Shift: 59}, [8]int{0, 1 << 59, 2 << 59, 3 << 59, 4 << 59, 5 << 59, 6 << 59, 7 << 59}},
	{api.Class{Kind: api.ClassSgn, Bits: 3}, [8]int{0, 1, 2, 3, -4, -3, -2, -1}},
	{api.Class{Kind: api.ClassSgn, Bits: 3, Shift: 4}, [8]int{0, 16, 32, 48, -64, -48, -32, -16}},
	{api.Class{Kind: api.ClassSgn, Bits: 3, Shift: 61}, [8]int{0, 1 << 61, 2 << 61, 3 << 61, -4 << 61, -3 << 61, -2 << 61, -1 << 61}},
	{api.Class{Kind: api.ClassPc, Bits: 3, Shift: 1}, [8]int{0, 2, 4, 6, -8, -6, -4, -2}},
	{api.Class{Kind: api.ClassNext, Bits: 3}, [8]int{0, 1, 2, 3, -4, -3, -2, -1}},
}

// excepting is a description of a form that has an operand of a class between two literals of x, and one that has a literal there.
func excepting(c api.Class, literal string) api.Desc {
	return api.Desc{
		Order:   api.OrderBytes,
		Files:   []api.File{{Count: 16, Width: 8, Zero: -1}},
		Classes: []api.Class{c},
		Forms: []api.Form{
			{Args: ofClasses(0), Pieces: []api.Piece{lit("xx"), bits(0, 2, 0), lit("xxx")}},
			{Pieces: []api.Piece{lit("00" + literal + "000")}},
		},
	}
}

// TestExceptedValues: the literal makes a value; the forms are disjoint if the class excepts it.
func TestExceptedValues(t *testing.T) {
	for _, k := range kinds {
		for n := range 8 {
			literal := strconv.FormatInt(int64(8+n), 2)[1:]
			for m, v := range k.values {
				what := strconv.Itoa(k.class.Kind) + " " + strconv.Itoa(k.values[n]) + " " + strconv.Itoa(v)
				c := k.class
				c.Except = []int{v}
				apart(t, what, excepting(c, literal), m == n)
				c.Except = []int{1000, v, -1000}
				apart(t, what+" among others", excepting(c, literal), m == n)
				for s := range 3 {
					apart(t, what+" with an x", excepting(c, literal[:s]+"x"+literal[s+1:]), false)
				}
			}
			c := k.class
			c.Except = k.values[:]
			apart(t, "all", excepting(c, literal), true)
			apart(t, "none", excepting(k.class, literal), false)
		}
	}
}

// TestExceptedOutside: an excepted number that the class doesn't have is no value of any bits.
func TestExceptedOutside(t *testing.T) {
	for _, k := range kinds {
		is := map[int]int{}
		for _, v := range k.values {
			is[v] = 1
		}
		for _, v := range append([]int{-16, -9, -8, -5, -4, -1, 0, 1, 2, 3, 5, 7, 8, 15, 16, 17, 29, 32, 33, 64}, far...) {
			if is[v] == 1 {
				continue
			}
			for n := range 8 {
				c := k.class
				c.Except = []int{v}
				apart(t, "a number outside", excepting(c, strconv.FormatInt(int64(8+n), 2)[1:]), false)
			}
		}
	}
}

// TestExceptedWide: values of very many bits.
func TestExceptedWide(t *testing.T) {
	for _, c := range []struct {
		kind, bits, shift, value int
		literal                  string
	}{
		{api.ClassSgn, 64, 0, math.MinInt, "1" + strings.Repeat("0", 63)},
		{api.ClassSgn, 64, 0, math.MaxInt, "0" + strings.Repeat("1", 63)},
		{api.ClassPc, 64, 0, -1, strings.Repeat("1", 64)},
		{api.ClassNext, 64, 0, 0, strings.Repeat("0", 64)},
		{api.ClassNext, 64, 0, 6, strings.Repeat("0", 61) + "110"},
		{api.ClassSgn, 56, 8, math.MinInt, "1" + strings.Repeat("0", 55)},
		{api.ClassSgn, 56, 8, -256, strings.Repeat("1", 56)},
		{api.ClassSgn, 8, 56, math.MinInt, "10000000"},
		{api.ClassSgn, 8, 56, 127 << 56, "01111111"},
		{api.ClassSgn, 8, 8, -1 << 15, "10000000"},
		{api.ClassUns, 56, 6, 1<<62 - 64, strings.Repeat("1", 56)},
		{api.ClassUns, 56, 0, 1 << 55, "1" + strings.Repeat("0", 55)},
	} {
		for s := range c.bits {
			d := two(api.OrderBytes, "", c.literal)
			d.Classes = []api.Class{{Kind: c.kind, Bits: c.bits, Shift: c.shift, Except: []int{c.value}}}
			d.Forms[0] = api.Form{Args: ofClasses(0), Pieces: []api.Piece{bits(0, c.bits-1, 0)}}
			apart(t, c.literal, d, true)
			other := "1"
			if c.literal[s] == '1' {
				other = "0"
			}
			d.Forms[1].Pieces[0].Lit = c.literal[:s] + other + c.literal[s+1:]
			apart(t, d.Forms[1].Pieces[0].Lit, d, false)
		}
	}
}

// TestExceptedAcross: an operand's bits may stand apart, and the other's literals be cut elsewhere.
func TestExceptedAcross(t *testing.T) {
	d := toy()
	d.Relaxes = nil
	d.Forms = []api.Form{
		{Args: ofClasses(classS, classW), Pieces: []api.Piece{bits(1, 0, 0), bits(0, 7, 3), bits(1, 3, 2), bits(0, 2, 0), lit("0000"), bits(1, 1, 1)}},
		{Pieces: []api.Piece{lit("0xx"), lit("xxx00xxx"), lit("00000")}},
	}
	apart(t, "across pieces", d, true)
	for _, s := range [][]string{{"1xx", "xxx00xxx", "00000"}, {"0xx", "xxx10xxx", "00000"}, {"0xx", "xxx01xxx", "00000"}, {"0xx", "xxx00xxx", "00001"}, {"xxx", "xxx00xxx", "00000"}} {
		d.Forms[1].Pieces = []api.Piece{lit(s[0]), lit(s[1]), lit(s[2])}
		apart(t, strings.Join(s, ""), d, false)
	}
	d.Forms[1] = api.Form{Args: ofClasses(classNx), Pieces: []api.Piece{lit("0"), bits(0, 7, 0), lit("0000000")}}
	apart(t, "bits of an operand against bits of an operand", d, false)
	d.Forms[1] = api.Form{Args: ofClasses(classNx), Pieces: []api.Piece{lit("0xxxxx00"), bits(0, 2, 0), lit("0000"), bits(0, 3, 3), bits(0, 7, 4), lit("0000")}}
	apart(t, "one bit of an operand against one of an operand", d, false)
	d.Forms[1] = api.Form{Args: ofClasses(classNx), Pieces: []api.Piece{lit("0xxxxx00"), bits(0, 7, 5), lit("00000"), bits(0, 4, 0), lit("000")}}
	apart(t, "operands beside each other", d, true)
}

// TestExceptedOfEither: either form's operands may do it, and any of them.
func TestExceptedOfEither(t *testing.T) {
	d := toy()
	d.Relaxes = nil
	for n := range 4 {
		args := ofClasses(classP, classP, classP, classP)
		args[n].Class = classLow
		var pieces []api.Piece
		for k := range 4 {
			if k == n {
				pieces = append(pieces, bits(k, 11, 0))
			} else {
				pieces = append(pieces, bits(k, 2, 0))
			}
		}
		d.Classes[classLow].Except = []int{0}
		zeros := api.Form{Pieces: []api.Piece{lit(strings.Repeat("0", 24))}}
		operands := api.Form{Args: args, Pieces: append(pieces, lit("xxx"))}
		d.Forms = []api.Form{zeros, operands}
		apart(t, strconv.Itoa(n), d, true)
		d.Forms = []api.Form{operands, zeros}
		apart(t, strconv.Itoa(n), d, true)
		d.Classes[classLow].Except = []int{1}
		apart(t, strconv.Itoa(n), d, false)
	}
}

// TestExceptedBehind: bits behind the other form's end make no value.
func TestExceptedBehind(t *testing.T) {
	d := toy()
	d.Relaxes = nil
	long := api.Form{Args: ofClasses(classW), Pieces: []api.Piece{lit("000000"), bits(0, 3, 0), lit("000000")}}
	short := api.Form{Pieces: []api.Piece{lit("00000000")}}
	d.Forms = []api.Form{long, short}
	apart(t, "half of an operand", d, false)
	long.Pieces = []api.Piece{lit("0000"), bits(0, 3, 0), lit("00000000")}
	d.Forms = []api.Form{long, short}
	apart(t, "an operand in the first byte", d, true)
	long.Pieces = []api.Piece{lit("00000000"), bits(0, 3, 0), lit("0000")}
	d.Forms = []api.Form{long, short}
	apart(t, "an operand in the second byte", d, false)
	d.Order = api.OrderWord
	apart(t, "an operand in the byte written last, word", d, true)
	long.Pieces = []api.Piece{lit("0000"), bits(0, 3, 0), lit("00000000")}
	d.Forms = []api.Form{long, short}
	apart(t, "an operand in the byte written first, word", d, false)
	long.Pieces = []api.Piece{lit("00000000"), lit("0000"), bits(0, 3, 0)}
	d.Forms = []api.Form{long, short}
	apart(t, "an operand in the last bits, word", d, true)
}

func TestDisjointFromItself(t *testing.T) {
	d := toy()
	for n := range d.Forms {
		if isacheck.Disjoint(d, n, n) {
			t.Error(n)
		}
		// A form with the same bits isn't, either.
		d.Forms = append(d.Forms[:len(d.Forms):len(d.Forms)], d.Forms[n])
		if isacheck.Disjoint(d, n, len(d.Forms)-1) || isacheck.Disjoint(d, len(d.Forms)-1, n) {
			t.Error(n, "and its copy")
		}
	}
}

func TestDisjointNoPlace(t *testing.T) {
	d := toy()
	for i := range d.Forms {
		for j := range d.Forms {
			if isacheck.Disjoint(d, i, j) != (i != j) {
				t.Error(i, j)
			}
		}
	}
	for _, n := range append([]int{-2, -1, len(d.Forms), len(d.Forms) + 1}, far...) {
		for k := range d.Forms {
			if isacheck.Disjoint(d, n, k) || isacheck.Disjoint(d, k, n) || isacheck.Disjoint(d, n, n) {
				t.Error(n, k)
			}
		}
	}
	if isacheck.Disjoint(api.Desc{}, 0, 0) || isacheck.Disjoint(api.Desc{}, 0, 1) {
		t.Error("of no forms")
	}
}

// TestDisjointWrongPatterns: a form with a wrong pattern is disjoint from none.
func TestDisjointWrongPatterns(t *testing.T) {
	right := lit("00000000")
	for _, f := range []api.Form{
		{}, {Pieces: []api.Piece{lit("1111111")}}, {Pieces: []api.Piece{lit("1111111?")}}, {Pieces: []api.Piece{lit(strings.Repeat("1", 128))}},
		{Args: ofClasses(classNx), Pieces: []api.Piece{lit("11111111")}},
		{Args: ofClasses(9), Pieces: []api.Piece{lit("11111111")}},
		{Pieces: []api.Piece{lit("11111111"), bits(0, 7, 0)}},
		{Args: ofClasses(classNx), Pieces: []api.Piece{lit("11111111"), bits(0, 7, 0), bits(0, 7, 0)}},
		{Args: ofClasses(classNx), Pieces: []api.Piece{lit("11111111"), bits(0, math.MaxInt, math.MinInt)}},
	} {
		d := toy()
		d.Forms = []api.Form{{Pieces: []api.Piece{right}}, f}
		if isacheck.Disjoint(d, 0, 1) || isacheck.Disjoint(d, 1, 0) || isacheck.Disjoint(d, 1, 1) {
			t.Errorf("%+v", f)
		}
	}
}

// TestDisjointOfOthers: what is wrong elsewhere in a description is nothing to two forms.
func TestDisjointOfOthers(t *testing.T) {
	d := toy()
	d.Files[fileX].Width, d.Aliases[0].File, d.Rels[0].Kind = 0, -1, 0
	d.Forms[formInc].Pieces, d.Forms[formNop].Sem = nil, []api.Term{{}}
	for len(d.Forms) < 600 {
		d.Forms = append(d.Forms, d.Forms[formLow])
	}
	if !isacheck.Disjoint(d, formNop, formPair) || !isacheck.Disjoint(d, 599, formPair) || isacheck.Disjoint(d, 599, 598) {
		t.Error("another answer")
	}
}

// TestFirstClash: Check tells the first form that isn't disjoint from one ahead of it.
func TestFirstClash(t *testing.T) {
	for i := range 12 {
		for j := range i {
			d := api.Desc{Order: api.OrderWord}
			for n := range 20 {
				d.Forms = append(d.Forms, api.Form{Pieces: []api.Piece{number(n)}})
			}
			d.Forms[i].Pieces = d.Forms[j].Pieces
			d.Forms[15].Pieces = d.Forms[14].Pieces
			checks(t, strconv.Itoa(j)+" "+strconv.Itoa(i), d, i, api.ErrClash)
		}
	}
	d := api.Desc{Order: api.OrderBytes}
	for n := range 511 {
		d.Forms = append(d.Forms, api.Form{Pieces: []api.Piece{number(n)}})
	}
	d.Forms = append(d.Forms, api.Form{Pieces: []api.Piece{lit("000000000000000x")}})
	checks(t, "the last of 512 and the first", d, 511, api.ErrClash)
}
