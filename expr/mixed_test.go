package expr_test

import (
	"math/big"
	"math/rand"
	"regexp"
	"slices"
	"strings"
	"testing"

	"dovetail/api"
	"dovetail/expr"
)

// A slower reading of the chapter: tokens, taken from left to right onto two heaps, with numbers of any size.

// slow is a sum: symbols and, as the symbol "", a number.
type slow map[string]*big.Int

// times is the product of a slow sum and a number, both as 64 bits have them.
func (s slow) times(n *big.Int) slow {
	out := slow{"": new(big.Int)}
	for sym, t := range s {
		p := new(big.Int).Mul(t, n)
		p.Mod(p, new(big.Int).Lsh(big.NewInt(1), 64))
		if sym == "" || p.Sign() != 0 {
			out[sym] = p
		}
	}
	return out
}

// plus is the sum of two slow sums.
func (s slow) plus(r slow) slow {
	out := slow{"": new(big.Int)}
	for _, l := range []slow{s, r} {
		for sym, n := range l {
			if out[sym] == nil {
				out[sym] = new(big.Int)
			}
			out[sym].Add(out[sym], n)
		}
	}
	return out.times(big.NewInt(1))
}

// lin is a slow sum as the package gives it.
func (s slow) lin() api.Lin {
	var a api.Lin
	for sym := range s {
		a.Syms = append(a.Syms, sym)
	}
	slices.Sort(a.Syms)
	for _, sym := range a.Syms {
		a.Times = append(a.Times, int(int64(s[sym].Uint64())))
	}
	return api.Lin{Syms: a.Syms[1:], Times: a.Times[1:], Off: a.Times[0]}
}

var (
	aToken   = regexp.MustCompile(`\A(?:[A-Za-z0-9_.$]+|[^A-Za-z0-9_.$])`)
	aDecimal = regexp.MustCompile(`\A(?:0|[1-9][0-9]*)\z`)
	aHex     = regexp.MustCompile(`\A0x[0-9a-f]{1,16}\z`)
)

// operator is an operator, a sign (~) or a parenthesis that still waits.
type operator struct {
	what byte
	at   int
}

// reader is a text that is read slowly.
type reader struct {
	waiting []operator
	sums    []slow
	at      int
	err     api.Errno
}

func (r *reader) fail(at int, e api.Errno) {
	if r.err == 0 {
		r.at, r.err = at, e
	}
}

// last takes the last sum.
func (r *reader) last() slow {
	s := r.sums[len(r.sums)-1]
	r.sums = r.sums[:len(r.sums)-1]
	return s
}

// done does the last operators that wait, as long as they are one of these.
func (r *reader) done(which string) {
	for n := len(r.waiting) - 1; r.err == 0 && n >= 0 && strings.IndexByte(which, r.waiting[n].what) >= 0; n-- {
		o, s := r.waiting[n], r.last()
		r.waiting = r.waiting[:n]
		switch o.what {
		case '~':
			s = s.times(big.NewInt(-1))
		case '-':
			s = r.last().plus(s.times(big.NewInt(-1)))
		case '+':
			s = r.last().plus(s)
		case '*':
			left := r.last()
			if len(left) > 1 && len(s) > 1 {
				r.fail(o.at, api.ErrExpr)
			}
			if len(s) > 1 {
				left, s = s, left
			}
			s = left.times(s[""])
		}
		if len(s) > 17 {
			r.fail(o.at, api.ErrExprMany)
		}
		r.sums = append(r.sums, s)
	}
}

// depth is how many parentheses and signs wait.
func (r *reader) depth() int {
	n := 0
	for _, o := range r.waiting {
		if o.what == '(' || o.what == '~' {
			n++
		}
	}
	return n
}

// factor takes a token where a factor must begin; it says whether the factor is whole.
func (r *reader) factor(token string, at int) bool {
	switch n, fits := new(big.Int).SetString(token, 0); {
	case token == "-" || token == "(":
		if r.depth() == 32 {
			r.fail(at, api.ErrExprMany)
		}
		r.waiting = append(r.waiting, operator{strings.Replace(token, "-", "~", 1)[0], at})
		return false
	case isName.MatchString(token):
		r.sums = append(r.sums, slow{"": new(big.Int), token: big.NewInt(1)})
	case fits && (aHex.MatchString(token) || aDecimal.MatchString(token) && n.IsInt64()):
		r.sums = append(r.sums, slow{"": n})
	default:
		r.fail(at, api.ErrExpr)
	}
	r.done("~*")
	return true
}

// behind takes a token where a factor is whole; it says whether one still is.
func (r *reader) behind(token string, at int) bool {
	if token == "*" {
		r.waiting = append(r.waiting, operator{'*', at})
		return false
	}
	r.done("+-")
	switch n := len(r.waiting); {
	case token == "+" || token == "-":
		r.waiting = append(r.waiting, operator{token[0], at})
		return false
	case token == ")" && n > 0 && r.err == 0:
		r.waiting = r.waiting[:n-1]
		r.done("~*")
	default:
		r.fail(at, api.ErrExpr)
	}
	return true
}

// slowParse is what Parse answers.
func slowParse(text string) (api.Lin, int, api.Errno) {
	r, whole := reader{}, false
	for at := 0; at < len(text) && r.err == 0; {
		token := aToken.FindString(text[at:])
		switch {
		case token == " ":
		case whole:
			whole = r.behind(token, at)
		default:
			whole = r.factor(token, at)
		}
		at += len(token)
	}
	if whole {
		r.done("+-")
	}
	if !whole || len(r.waiting) > 0 {
		r.fail(len(text), api.ErrExpr)
	}
	if r.err != 0 {
		return api.Lin{}, r.at, r.err
	}
	return r.sums[0].lin(), 0, api.OK
}

// someText is a text of pieces that are often right beside one another.
func someText(r *rand.Rand) string {
	factors := []string{"a", "b", "c", "2", "3", "0", "_", "a", "0xffffffffffffffff", "0x8000000000000000", "9223372036854775807", "4294967296", "$1"}
	wrong := []string{"00", "0xG", "1a", "\t", ")", "(", "*", "+", "-", " ", "é", "\x00", "a b", "a*b", "9223372036854775808"}
	var out strings.Builder
	open := 0
	for range r.Intn(8) {
		for r.Intn(3) == 0 {
			out.WriteString([]string{"-", "(", " "}[r.Intn(3)])
		}
		open = strings.Count(out.String(), "(") - strings.Count(out.String(), ")")
		out.WriteString(factors[r.Intn(len(factors))])
		for open > 0 && r.Intn(3) == 0 {
			out.WriteString(")")
			open--
		}
		out.WriteString([]string{"+", "-", "*", "+ ", " - ", "*", "*2-", "*0+"}[r.Intn(8)])
		if r.Intn(30) == 0 {
			out.WriteString(wrong[r.Intn(len(wrong))])
		}
	}
	out.WriteString(factors[r.Intn(len(factors))])
	if r.Intn(10) > 0 {
		out.WriteString(strings.Repeat(")", max(0, open)))
	}
	return out.String()
}

// manyText is a text of many symbols, or of many signs and parentheses within one another.
func manyText(r *rand.Rand) string {
	var out strings.Builder
	open, deep := 0, r.Intn(2)
	for range 18 + r.Intn(8) {
		for r.Intn(5) < 1+3*deep {
			out.WriteString([]string{"-", "(", "2*("}[r.Intn(3)])
		}
		open = strings.Count(out.String(), "(") - strings.Count(out.String(), ")")
		out.WriteString(numbered(r.Intn(36)))
		n := r.Intn(open+1) / (1 + 7*deep)
		out.WriteString(strings.Repeat(")", n) + []string{"+", "-", "+", "-", "*0-", "*"}[r.Intn(5+r.Intn(30)/29)])
		open -= n
	}
	return out.String() + "1" + strings.Repeat(")", open)
}

func TestParseMixed(t *testing.T) {
	r := rand.New(rand.NewSource(12))
	met := map[string]int{}
	for n := range 15000 {
		text := someText(r)
		if n%3 == 0 {
			text = manyText(r)
		}
		want, at, err := slowParse(text)
		got, place, e := expr.Parse(text)
		if !same(got, want) || place != at || e != err || !normal(got) {
			t.Fatalf("%q: %v at %d, %v, not %v at %d, %v", text, got, place, e, want, at, err)
		}
		switch {
		case e != api.OK:
			met[e.Error()+" "+text[at:min(at+1, len(text))]]++
		case len(got.Syms) == 0:
			met["a number"]++
		case len(got.Syms) > 12:
			met["many symbols"]++
		default:
			met["a sum"]++
		}
	}
	for _, what := range []string{"a number", "a sum", "many symbols", "error 121 *", "error 121 ", "error 121 )", "error 121 0", "error 123 (", "error 123 -", "error 123 +", "error 121 \t", "error 121 +"} {
		if met[what] < 20 {
			t.Error("met too seldom", what, met[what], met)
		}
	}
}

// All texts of up to six of some bytes are as the slower reading has them.
func TestParseAllShort(t *testing.T) {
	const few = "a0-*( )7+"
	text := make([]byte, 0, 6)
	var all func()
	all = func() {
		want, at, err := slowParse(string(text))
		if got, place, e := expr.Parse(string(text)); !same(got, want) || place != at || e != err {
			t.Errorf("%q: %v at %d, %v, not %v at %d, %v", text, got, place, e, want, at, err)
		}
		if len(text) == cap(text) {
			return
		}
		for i := range len(few) {
			text = append(text, few[i])
			all()
			text = text[:len(text)-1]
		}
	}
	all()
}

// Sums of random sums, and their products, texts and values, are what numbers of any size have.
func TestSumsMixed(t *testing.T) {
	r := rand.New(rand.NewSource(13))
	some := func() api.Lin {
		a := api.Lin{Off: edges()[r.Intn(len(edges()))]}
		for i := range 16 {
			n := edges()[r.Intn(len(edges()))]
			if n != 0 && r.Intn(3) > 0 {
				a.Syms, a.Times = append(a.Syms, numbered(2*i+r.Intn(2))), append(a.Times, n)
			}
		}
		return a
	}
	of := func(a api.Lin) slow {
		s := slow{"": big.NewInt(int64(a.Off))}
		for i, sym := range a.Syms {
			s[sym] = big.NewInt(int64(a.Times[i]))
		}
		return s.times(big.NewInt(1))
	}
	met := map[api.Errno]int{}
	for range 5000 {
		a, b := some(), some()
		sum, e := expr.Add(a, b)
		met[e]++
		switch want := of(a).plus(of(b)).lin(); {
		case len(want.Syms) > 16:
			if !none(sum) || e != api.ErrExprMany {
				t.Error(a, b, sum, e)
			}
		case !same(sum, want) || e != api.OK:
			t.Error(a, b, sum, e)
		}
		n := edges()[r.Intn(len(edges()))]
		if p := expr.Times(a, n); !same(p, of(a).times(big.NewInt(int64(n))).lin()) {
			t.Error(a, n, p)
		}
		text, e := expr.Print(a)
		if again, _, _ := expr.Parse(text); e != api.OK || !same(again, a) {
			t.Error(a, text, e)
		}
		value, vals := big.NewInt(int64(a.Off)), make([]int, len(a.Syms))
		for i, t := range a.Times {
			vals[i] = int(r.Uint64())
			value.Add(value, new(big.Int).Mul(big.NewInt(int64(t)), big.NewInt(int64(vals[i]))))
		}
		want := slow{"": value}.times(big.NewInt(1)).lin().Off
		if got, ok := expr.Eval(a, a.Syms, vals); got != want || !ok {
			t.Error(a, vals, got, ok, want)
		}
	}
	if met[api.OK] < 100 || met[api.ErrExprMany] < 100 {
		t.Error("met too seldom", met)
	}
}
