package expr_test

import (
	"math"
	"regexp"
	"strconv"
	"strings"
	"testing"
	"unsafe"

	"dovetail/api"
	"dovetail/expr"
)

// P12.1

// isName is what a name is.
var isName = regexp.MustCompile(`\A[A-Za-z_.$][A-Za-z_.$0-9]*\z`)

// reads asks that a text is read as a sum.
func reads(t *testing.T, text string, want api.Lin) {
	t.Helper()
	got, at, e := expr.Parse(text)
	if !same(got, want) || at != 0 || e != api.OK {
		t.Errorf("%.80q: %v at %d, %v, not %v", text, got, at, e, want)
	}
}

// refuses asks that a text is refused, with a place.
func refuses(t *testing.T, text string, at int, want api.Errno) {
	t.Helper()
	got, place, e := expr.Parse(text)
	if !none(got) || place != at || e != want {
		t.Errorf("%.80q: %v at %d, %v, not at %d, %v", text, got, place, e, at, want)
	}
}

func TestParse(t *testing.T) {
	for text, want := range map[string]api.Lin{
		"0":                  lin(0),
		"7":                  lin(7),
		"a":                  lin(0, "1 a"),
		"-a":                 lin(0, "-1 a"),
		"--a":                lin(0, "1 a"),
		"a+1":                lin(1, "1 a"),
		"1+a":                lin(1, "1 a"),
		"a-1":                lin(-1, "1 a"),
		"1-a":                lin(1, "-1 a"),
		"a+b":                lin(0, "1 a", "1 b"),
		"b-a":                lin(0, "-1 a", "1 b"),
		"b+a+B+_+.+$":        lin(0, "1 $", "1 .", "1 B", "1 _", "1 a", "1 b"),
		"a+a":                lin(0, "2 a"),
		"a-a":                lin(0),
		"a-a+2":              lin(2),
		"1-2-3":              lin(-4),
		"1-2+3":              lin(2),
		"1-(2+3)":            lin(-4),
		"1-(2-3)":            lin(2),
		"2*3+4":              lin(10),
		"2+3*4":              lin(14),
		"(2+3)*4":            lin(20),
		"2*3*4":              lin(24),
		"2*(3*4)":            lin(24),
		"-2*3":               lin(-6),
		"2*-3":               lin(-6),
		"-2*-3":              lin(6),
		"2--3":               lin(5),
		"2---3":              lin(-1),
		"2+-3":               lin(-1),
		"-(2-3)":             lin(1),
		"-(a-3)":             lin(3, "-1 a"),
		"-2-3":               lin(-5),
		"--2":                lin(2),
		"2*a":                lin(0, "2 a"),
		"a*2":                lin(0, "2 a"),
		"-a*2":               lin(0, "-2 a"),
		"a*-2":               lin(0, "-2 a"),
		"2*a*3":              lin(0, "6 a"),
		"2*3*a":              lin(0, "6 a"),
		"a*2*3":              lin(0, "6 a"),
		"2*(a+3)":            lin(6, "2 a"),
		"(a+3)*2":            lin(6, "2 a"),
		"(a+b)*2-b":          lin(0, "2 a", "1 b"),
		"a*2-b*3":            lin(0, "2 a", "-3 b"),
		"(((a)))":            lin(0, "1 a"),
		"(1)*(2)+(a)":        lin(2, "1 a"),
		"2*(a-b)+3 - a":      lin(3, "1 a", "-2 b"),
		"-(-(a))":            lin(0, "1 a"),
		"-(-(-(a-1)-2)-3)-4": lin(1-2+3-4, "-1 a"),
	} {
		reads(t, text, want)
		reads(t, " ("+text+")", want)
		reads(t, strings.NewReplacer("*", " *  ", "-", "- ", "+", " +", ")", " ) ", "(", "( ").Replace(text)+"   ", want)
	}
}

func TestParseBlanks(t *testing.T) {
	reads(t, "   a   ", lin(0, "1 a"))
	reads(t, "  2 * ( a - b ) + 3  -  - a ", lin(3, "3 a", "-2 b"))
	for _, c := range []string{"\t", "\n", "\r", "\v", "\f", "\x00", "\u00a0", "\x85", "\u2003"} {
		refuses(t, c, 0, api.ErrExpr)
		refuses(t, c+"a", 0, api.ErrExpr)
		refuses(t, "a"+c, 1, api.ErrExpr)
		refuses(t, "a "+c+" ", 2, api.ErrExpr)
		refuses(t, "a"+c+"+1", 1, api.ErrExpr)
		refuses(t, "a +"+c+"1", 3, api.ErrExpr)
		refuses(t, "- "+c+"1", 2, api.ErrExpr)
		refuses(t, "( 1"+c+")", 3, api.ErrExpr)
		refuses(t, "("+c+"1)", 1, api.ErrExpr)
		refuses(t, "2*"+c+"1", 2, api.ErrExpr)
		refuses(t, "2"+c+"*1", 1, api.ErrExpr)
	}
}

func TestParseNames(t *testing.T) {
	for _, s := range names() {
		reads(t, s, lin(0, "1 "+s))
		reads(t, "3-2*"+s+" ", lin(3, "-2 "+s))
	}
	for _, s := range []string{"A", "Z", "a", "z", "x", "e", "_", ".", "$", "x1", "e5", "_0x12", ".5", "$0", "0"} {
		for c := range 256 {
			one := string([]byte{byte(c)})
			switch whole := s + one; {
			case isName.MatchString(whole):
				reads(t, whole, lin(0, "1 "+whole))
				reads(t, whole+"b1", lin(0, "1 "+whole+"b1"))
			case s == "0":
			case one == " ":
				reads(t, whole, lin(0, "1 "+s))
				refuses(t, whole+"b1", len(whole), api.ErrExpr)
			case one == "+" || one == "-":
				refuses(t, whole, len(whole), api.ErrExpr)
				reads(t, whole+"0", lin(0, "1 "+s))
			case one == "*":
				refuses(t, whole, len(whole), api.ErrExpr)
				refuses(t, whole+"b1", len(s), api.ErrExpr)
			default:
				refuses(t, whole, len(s), api.ErrExpr)
				refuses(t, whole+"b1", len(s), api.ErrExpr)
			}
		}
	}
}

func TestParseFirstByte(t *testing.T) {
	for c := range 256 {
		one := string([]byte{byte(c)})
		switch {
		case c >= '0' && c <= '9':
			reads(t, one, lin(c-'0'))
		case isName.MatchString(one):
			reads(t, one, lin(0, "1 "+one))
		case one == " " || one == "-" || one == "(":
			refuses(t, one, 1, api.ErrExpr)
			reads(t, one+"(0)"+strings.Repeat(")", strings.Count(one, "(")), lin(0))
		default:
			refuses(t, one, 0, api.ErrExpr)
			refuses(t, one+"(0)", 0, api.ErrExpr)
			refuses(t, "1 + "+one+"1", 4, api.ErrExpr)
		}
	}
}

func TestParseNumbers(t *testing.T) {
	for text, want := range map[string]int{
		"10": 10, "100": 100, "1234567890": 1234567890, "99999999999999999": 99999999999999999,
		"9223372036854775807": math.MaxInt, "9223372036854775799": math.MaxInt - 8, "-9223372036854775807": -math.MaxInt,
		"-9223372036854775807-1": math.MinInt, "9223372036854775807+1": math.MinInt,
		"0x0": 0, "0x00": 0, "0x1": 1, "0x0000000000000001": 1, "0x000000000000000": 0, "0xff": 255, "0xabcdef": 0xabcdef, "0x0123456789abcdef": 0x0123456789abcdef,
		"0x7fffffffffffffff": math.MaxInt, "0x8000000000000000": math.MinInt, "-0x8000000000000000": math.MinInt, "0xffffffffffffffff": -1, "-0xffffffffffffffff": 1, "0xfffffffffffffffe": -2,
		"0x10": 16, "0x99": 0x99, "0xe5": 0xe5, "0xa": 10, "0xf": 15,
		"0xffffffffffffffff*5": -5, "0x8000000000000000*2": 0, "0x8000000000000000*3": math.MinInt, "4294967296*4294967296": 0, "3037000500*3037000500": -9223372036709301616, "9223372036854775807*2": -2, "9223372036854775807*9223372036854775807": 1,
	} {
		reads(t, text, lin(want))
		reads(t, "a + "+text, lin(want, "1 a"))
		reads(t, "("+text+")*-1", lin(-want))
	}
	for _, text := range []string{
		"00", "01", "007", "0123", "00x1", "000", "0a", "0b1", "0b11", "0o7", "0_1", "1_000", "1_", "0.", "1.5", "1.", "1e5", "1e", "1$", "7a", "7A", "9z", "0z", "1x", "1x1", "10x1",
		"0x", "0X", "0X1", "0Xff", "0xg", "0x1g", "0xF", "0xA", "0xfF", "0xFf", "0x1_0", "0x_1", "0x.", "0x1.", "0x1.8", "0x1p4", "0x0x1", "0x$", "0x12345678901234567", "0x00000000000000000", "0x00000000000000001", "0xfffffffffffffffff", "0x" + strings.Repeat("0", 5000) + "1",
		"9223372036854775808", "9223372036854775809", "9223372036854775810", "9999999999999999999", "10000000000000000000", "18446744073709551615", "18446744073709551616", "18446744073709551617", "99999999999999999999", "170141183460469231731687303715884105728", strings.Repeat("9", 5000), strings.Repeat("0", 5000),
	} {
		refuses(t, text, 0, api.ErrExpr)
		refuses(t, "-"+text, 1, api.ErrExpr)
		refuses(t, "a + "+text+" + b", 4, api.ErrExpr)
		refuses(t, "(2*"+text+")", 3, api.ErrExpr)
		refuses(t, "a*"+text+"*b", 2, api.ErrExpr)
	}
	for _, c := range []byte("\x00!\"#%&',/:;<=>?@[\\]^`{|}~\x7f\x80\xff") {
		for _, s := range []string{"0", "7", "12", "0x1f"} {
			refuses(t, s+string([]byte{c}), len(s), api.ErrExpr)
			refuses(t, s+string([]byte{c})+"1", len(s), api.ErrExpr)
		}
	}
}

func TestParseWrapsRound(t *testing.T) {
	reads(t, "0x8000000000000000*a*2", lin(0))
	reads(t, "0x8000000000000000*a*2+b", lin(0, "1 b"))
	reads(t, "0x8000000000000000*a + 0x8000000000000000*a", lin(0))
	reads(t, "0x8000000000000000*a - 0x8000000000000000*a", lin(0))
	reads(t, "-(0x8000000000000000*a)", api.Lin{Syms: []string{"a"}, Times: []int{math.MinInt}})
	reads(t, "9223372036854775807*a+a", api.Lin{Syms: []string{"a"}, Times: []int{math.MinInt}})
	reads(t, "4294967296*(4294967296*a+1)", lin(1<<32))
	reads(t, "4294967296*(4294967297*a+1)", lin(1<<32, "4294967296 a"))
	reads(t, "0xffffffffffffffff*(a-b)", lin(0, "-1 a", "1 b"))
}

func TestParseProducts(t *testing.T) {
	reads(t, "0*a", lin(0))
	reads(t, "a*0", lin(0))
	reads(t, "0*a*b", lin(0))
	reads(t, "a*0*b", lin(0))
	reads(t, "(a-a)*b", lin(0))
	reads(t, "(a-a+2)*b", lin(0, "2 b"))
	reads(t, "b*(a-a+2)", lin(0, "2 b"))
	reads(t, "b*(a*0-2)*3", lin(0, "-6 b"))
	reads(t, "(a+1)*(b-b+1)", lin(1, "1 a"))
	reads(t, "2*(0x8000000000000000*a)*b", lin(0))
	for text, at := range map[string]int{
		"a*b": 1, "a *b": 2, "a * b": 2, "a* b": 1, "a*a": 1, "2*a*b": 3, "a*2*b": 3, "a*b*2": 1, "a*b*c": 1, "a*0+b*c": 5, "1+a*b": 3, "1-a*b+2": 3, "a-a*b": 3,
		"(a)*(b)": 3, "(a*b)": 2, "-a*-b": 2, "-(a*b)": 3, "(a+1)*(a-1)": 5, "(a+1)*(a+1-a)*(b*c)": 16, "(a*b)*c": 2, "a*(b*c)": 4, "a*b c": 1, "a*b)": 1, "a*b(": 1, "a*b*": 1, "a*b\t": 1, "a*b+(": 1,
		"(a+b-a)*(b-b+c)": 7,
	} {
		refuses(t, text, at, api.ErrExpr)
	}
}

func TestParseRefuses(t *testing.T) {
	for text, at := range map[string]int{
		"": 0, " ": 1, "     ": 5, "+": 0, "-": 1, "*": 0, "(": 1, ")": 0, "()": 1, "( )": 2, "(( ))": 3,
		"+a": 0, " + a": 1, "-+a": 1, "a++b": 2, "a + + b": 4, "a+*b": 2, "a*+b": 2, "a**b": 2, "a*)": 2, "a-*b": 2, "a- )": 3, "-)": 1, "-*": 1,
		"a+": 2, "a +": 3, "a + ": 4, "a-": 2, "a*": 2, "2*": 2, "2* ": 3, "a--": 3, "2*-": 3, "- ": 2, "a+(": 3, "(a": 2, "(a ": 3, "((a)": 4, "(a+": 3, "(a+(b)": 6, "-(a": 3, "(-": 2, "2*(a": 4,
		"a)": 1, "(a))": 3, "a )": 2, "(a)) ": 3, "a b": 2, "a  1": 3, "1 a": 2, "1 2": 2, "a(b)": 1, "a (b)": 2, "(a)(b)": 3, "(a)b": 3, "(a)1": 3, "2(a)": 1, "(a b)": 3, "(1 2)": 3, "a 1": 2, "7a": 0, "a 7a": 2,
		"a/b": 1, "a%b": 1, "a,b": 1, "a<<1": 1, "~a": 0, "!a": 0, "a@b": 1, "a=b": 1, "[a]": 0, "a]": 1, "(a]": 2, "{a}": 0, "a;b": 1, "'a'": 0, "\"a\"": 0, "a\"": 1, "a#": 1, "%hi(a)": 0, "a:": 1, "ä": 0, "aä": 1, "1ä": 1, "\x00": 0, "a\x00": 1, "1 \x00": 2, "1+\x00": 2, "(1\x00": 2, "(1\x00)": 2, "-\x00": 1,
		// The first error counts, not the worst.
		"a+*b+00": 2, "(a b*c": 3, "00*a*b": 0, "a*(b": 4, "a*(b+": 5, "a*(00": 3, "a*-": 3, "a*b 00": 1, "a+ ) *": 3,
	} {
		refuses(t, text, at, api.ErrExpr)
	}
}

func TestParseDepth(t *testing.T) {
	for _, c := range []struct {
		open, shut string
		at         []int // where in open the parentheses and signs stand within one another
	}{
		{"(", ")", []int{0}}, {"-", "", []int{0}}, {" ( ", " )", []int{1}}, {"- ", "", []int{0}}, {"-(", ")", []int{0, 1}}, {"(-", ")", []int{0, 1}}, {"----", "", []int{0, 1, 2, 3}},
		{"(2*(", "))", []int{0, 3}}, {"2*-(", ")", []int{2, 3}}, {"(a-", ")", []int{0}}, {"(a+b*2--", ")", []int{0, 7}}, {"((( (1+(((", "))) )) ))", []int{0, 1, 2, 4, 7, 8, 9}},
	} {
		place := func(n int) int { return n/len(c.at)*len(c.open) + c.at[n%len(c.at)] }
		n := api.MaxDepth / len(c.at)
		text := strings.Repeat(c.open, n) + "0" + strings.Repeat(c.shut, n)
		if _, at, e := expr.Parse(text); at != 0 || e != api.OK {
			t.Error(c, at, e)
		}
		endless := strings.Repeat(c.open, 40)
		refuses(t, endless[:place(api.MaxDepth-1)+1], place(api.MaxDepth-1)+1, api.ErrExpr)
		// The one that is too deep counts, whatever stands behind it.
		for _, behind := range []string{"0" + c.shut, "", "00", ")", "\xff", " ", "((((----"} {
			text := endless[:place(api.MaxDepth)+1] + behind
			refuses(t, text, place(api.MaxDepth), api.ErrExprMany)
			refuses(t, "1 + 2 - "+text, 8+place(api.MaxDepth), api.ErrExprMany)
			refuses(t, "(-1)*(2-(3))-a*"+text, 15+place(api.MaxDepth), api.ErrExprMany)
		}
	}
}

func TestParseNotDeep(t *testing.T) {
	open, shut := strings.Repeat("(", api.MaxDepth), strings.Repeat(")", api.MaxDepth)
	reads(t, open+"a-b"+shut, lin(0, "1 a", "-1 b"))
	refuses(t, open+"-a"+shut, 32, api.ErrExprMany)
	refuses(t, open+"a--b"+shut, 34, api.ErrExprMany)
	refuses(t, open+"a*-b"+shut, 34, api.ErrExprMany)
	refuses(t, open+"a", 33, api.ErrExpr)
	refuses(t, open, 32, api.ErrExpr)
	reads(t, open[1:]+"-a--b*-2"+shut[1:], lin(0, "-1 a", "-2 b"))
	reads(t, open[2:]+"-(a)"+shut[2:], lin(0, "-1 a"))
	// A sum's + and - aren't within one another; nor is what stands beside another.
	reads(t, strings.Repeat("1-", 1000)+"a", lin(1-999, "-1 a"))
	reads(t, strings.Repeat("(-1)-", 1001)+"-(a)", lin(999, "1 a"))
	reads(t, strings.Repeat("-1*", 1001)+"a", lin(0, "-1 a"))
	reads(t, open+"1"+shut+"+"+open+"2"+shut+"-"+open+"a"+shut+"*"+strings.Repeat("-", 31)+"3", lin(3, "3 a"))
}

// summed are the symbols of many from one on up to another, with an operator between.
func summed(from, to int, op string) string {
	var l []string
	for i := from; i < to; i++ {
		l = append(l, numbered(i))
	}
	return strings.Join(l, op)
}

func TestParseManySymbols(t *testing.T) {
	full, most := summed(0, 16, "+"), many(16)
	reads(t, full, most)
	reads(t, "("+full+")*1-0", most)
	reads(t, full+"+"+full, expr.Times(most, 2))
	reads(t, full+"-("+full+")", lin(0))
	reads(t, "-s01-"+summed(1, 16, "-"), expr.Times(most, -1))
	reads(t, summed(0, 17, "*0+"), lin(0, "1 s17"))
	for _, nothing := range []string{"+0", "+new*0", "+0*new", "-(new-new)", "-(new+s01-s01-new)", "-s16+s16", "+(new-s16)-new+s16"} {
		reads(t, full+nothing, most)
	}
	for _, swapped := range []string{"-s16+t", "+(t-s16)", "-(s16-t)", "-s16+(t)*1"} {
		reads(t, full+swapped, api.Lin{Syms: append(many(15).Syms, "t"), Times: most.Times})
	}
	for _, last := range []string{"+", "-"} {
		for _, behind := range []string{"", "-s17", "-s01", ")", " 00", "+(", "\xff", "+a*b"} {
			refuses(t, full+last+"s17"+behind, 63, api.ErrExprMany)
			refuses(t, full+" "+last+" s17 "+behind, 64, api.ErrExprMany)
			refuses(t, full+last+"(s17-s01*2)*3"+behind, 63, api.ErrExprMany)
			refuses(t, "2*("+full+last+"s17"+behind, 66, api.ErrExprMany)
		}
		refuses(t, full+last+"s17*", 68, api.ErrExpr)
		refuses(t, full+last+"s17*s18", 67, api.ErrExpr)
		refuses(t, full+last+"(s17", 68, api.ErrExpr)
		refuses(t, full+last+"0s17", 64, api.ErrExpr)
		refuses(t, full+last, 64, api.ErrExpr)
		refuses(t, "s17"+last+"("+full+")", 3, api.ErrExprMany)
		refuses(t, "s17"+last+"(1-"+full+"+s17)*2", 70, api.ErrExprMany)
		refuses(t, summed(0, 20, "+")+last+"00", 63, api.ErrExprMany)
		refuses(t, "s17-s18"+last+"2*("+full+")+00", 7, api.ErrExprMany)
	}
	reads(t, "s01"+"-("+full+")", expr.Times(api.Lin{Syms: most.Syms[1:], Times: most.Times[1:]}, -1))
}

func TestParseLongTexts(t *testing.T) {
	const n = 200000
	reads(t, strings.Repeat("a+", n)+"a", lin(0, strconv.Itoa(n+1)+" a"))
	reads(t, strings.Repeat("-1*", n)+"a", lin(0, "1 a"))
	reads(t, strings.Repeat("(a)-(a)+", n)+"2", lin(2))
	reads(t, strings.Repeat(" ", n)+"a"+strings.Repeat(" ", n), lin(0, "1 a"))
	reads(t, strings.Repeat("a", n)+"-1", lin(-1, "1 "+strings.Repeat("a", n)))
	refuses(t, strings.Repeat("0", n), 0, api.ErrExpr)
	refuses(t, strings.Repeat("a+", n)+"(", 2*n+1, api.ErrExpr)
	refuses(t, strings.Repeat("1*", n), 2*n, api.ErrExpr)
	refuses(t, strings.Repeat("(", n), api.MaxDepth, api.ErrExprMany)
	refuses(t, strings.Repeat("-", n), api.MaxDepth, api.ErrExprMany)
	refuses(t, strings.Repeat(")", n), 0, api.ErrExpr)
}

// A text may be written over behind the call.
func TestParseKeepsNoText(t *testing.T) {
	b := []byte("name + 2*other - 7")
	a, at, e := expr.Parse(unsafe.String(&b[0], len(b)))
	for i := range b {
		b[i] = '#'
	}
	if !same(a, lin(-7, "1 name", "2 other")) || at != 0 || e != api.OK {
		t.Error(a, at, e)
	}
}
