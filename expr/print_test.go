package expr_test

import (
	"math"
	"strings"
	"testing"

	"dovetail/api"
	"dovetail/expr"
)

// P12.3

// prints asks for a sum's text, which Parse reads again.
func prints(t *testing.T, a api.Lin, want string) {
	t.Helper()
	x := roomy(a)
	got, e := expr.Print(x)
	if got != want || e != api.OK || !untouched(x, a) {
		t.Errorf("%.99v: %.99q %v", a, got, e)
	}
	reads(t, want, a)
}

func TestPrint(t *testing.T) {
	prints(t, lin(0), "0")
	prints(t, lin(7), "7")
	prints(t, lin(-7), "-7")
	prints(t, lin(0, "1 a"), "1*a+0")
	prints(t, lin(5, "-1 a"), "-1*a+5")
	prints(t, lin(-5, "2 a"), "2*a+-5")
	prints(t, lin(3, "1 a", "-2 b"), "1*a+-2*b+3")
	prints(t, lin(-10, "10 $.", "-20 A", "100 z9"), "10*$.+-20*A+100*z9+-10")
	prints(t, lin(math.MaxInt, "9223372036854775807 a", "-9223372036854775807 b"), "9223372036854775807*a+-9223372036854775807*b+9223372036854775807")
	prints(t, lin(math.MinInt), "0x8000000000000000")
	prints(t, lin(math.MinInt+1), "-9223372036854775807")
	prints(t, lin(math.MinInt, "-9223372036854775808 a", "1 b", "-9223372036854775808 c"), "0x8000000000000000*a+1*b+0x8000000000000000*c+0x8000000000000000")
	prints(t, lin(1, "-9223372036854775808 a"), "0x8000000000000000*a+1")
	prints(t, many(16), "1*"+summed(0, 16, "+1*")+"+0")
	for _, s := range names() {
		prints(t, lin(-3, "4 "+s), "4*"+s+"+-3")
	}
}

func TestPrintRefuses(t *testing.T) {
	for _, a := range abnormal() {
		x := roomy(a)
		if got, e := expr.Print(x); got != "" || e != api.ErrExpr || !untouched(x, a) {
			t.Errorf("%v: %.99q %v", a, got, e)
		}
	}
}

// All numbers of the edges, as Times and as Off, are read again.
func TestPrintAgain(t *testing.T) {
	for _, m := range edges() {
		for _, n := range edges() {
			a := api.Lin{Off: m}
			if n != 0 {
				a.Syms, a.Times = []string{"a", "b"}, []int{n, -1}
			}
			s, e := expr.Print(a)
			if e != api.OK || strings.Contains(s, " ") || strings.HasPrefix(s, "+") {
				t.Error(a, s, e)
			}
			reads(t, s, a)
			reads(t, "-("+s+")", expr.Times(a, -1))
		}
	}
}
