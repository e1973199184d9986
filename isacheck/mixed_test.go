package isacheck_test

import (
	"math"
	"math/rand"
	"reflect"
	"strings"
	"testing"

	"dovetail/api"
	"dovetail/isacheck"
)

// cells is what stands at the places of a form's bits, told in letters from the place 0 on: 0, 1, x, or a letter for each bit of an operand.
func cells(order int, f api.Form) string {
	written := ""
	for _, p := range f.Pieces {
		if p.Arg < 0 {
			written += p.Lit
			continue
		}
		for b := p.Hi; b >= p.Lo; b-- {
			written += letter(p.Arg, b)
		}
	}
	at := make([]byte, len(written))
	for s := range written {
		where := byteAndBit(order, s, len(written))
		at[8*where[0]+where[1]] = written[s]
	}
	return string(at)
}

// letter is that of a bit of an operand.
func letter(arg, bit int) string { return string(rune('A' + 8*arg + bit)) }

// slowDisjoint is Disjoint of two forms of right patterns: what an excepted value makes of the letters is held against the literals.
func slowDisjoint(d api.Desc, i, j int) bool {
	a, b := cells(d.Order, d.Forms[i]), cells(d.Order, d.Forms[j])
	for p := range min(len(a), len(b)) {
		if a[p] == '0' && b[p] == '1' || a[p] == '1' && b[p] == '0' {
			return true
		}
	}
	return slowExcludes(d, d.Forms[i], a, b) || slowExcludes(d, d.Forms[j], b, a)
}

func slowExcludes(d api.Desc, f api.Form, a, b string) bool {
	for n, arg := range f.Args {
		c := d.Classes[arg.Class]
		for _, v := range c.Except {
			for code := range 1 << c.Bits {
				if madeOf(c, code) == v && standsAt(a, b, n, c.Bits, code) {
					return true
				}
			}
		}
	}
	return false
}

// madeOf is the value that encoded bits make, told by division.
func madeOf(c api.Class, code int) int {
	step := 1
	for range c.Shift {
		step *= 2
	}
	switch {
	case c.Kind == api.ClassReg:
		return c.Plus + code
	case c.Kind != api.ClassUns && code >= 1<<c.Bits/2:
		return (code - 1<<c.Bits) * step
	}
	return code * step
}

// standsAt says whether the bits of b at the places of an operand of a are those of a number.
func standsAt(a, b string, arg, n, code int) bool {
	for bit := range n {
		p := strings.Index(a, letter(arg, bit))
		if p >= len(b) || b[p] != "01"[code>>bit&1] {
			return false
		}
	}
	return true
}

// has says whether bytes, told as the letters of cells, are an instruction of a form.
func has(d api.Desc, f api.Form, a, bytes string) bool {
	if len(a) > len(bytes) {
		return false
	}
	for p := range a {
		if (a[p] == '0' || a[p] == '1') && a[p] != bytes[p] {
			return false
		}
	}
	for n, arg := range f.Args {
		c := d.Classes[arg.Class]
		for code := range 1 << c.Bits {
			if !standsAt(a, bytes, n, c.Bits, code) {
				continue
			}
			for _, v := range c.Except {
				if v == madeOf(c, code) {
					return false
				}
			}
		}
	}
	return true
}

// smallClasses have few bits, and except some of their values.
func smallClasses(r *rand.Rand) []api.Class {
	var l []api.Class
	for range 6 {
		c := api.Class{Kind: 1 + r.Intn(5), Bits: 1 + r.Intn(4), Shift: r.Intn(3)}
		if c.Kind == api.ClassReg {
			c.Plus, c.Shift = c.Shift, 0
		}
		for range r.Intn(4) {
			c.Except = append(c.Except, madeOf(c, r.Intn(1<<c.Bits)))
		}
		l = append(l, c)
	}
	return l
}

// smallForm has one or two bytes, all right.
func smallForm(r *rand.Rand, classes []api.Class) api.Form {
	var f api.Form
	room := 8 + 8*r.Intn(2)
	var pieces []api.Piece
	for range r.Intn(3) {
		c := r.Intn(len(classes))
		n := classes[c].Bits
		if n > room {
			continue
		}
		room -= n
		arg := len(f.Args)
		f.Args = append(f.Args, api.Arg{Class: c})
		if cut := r.Intn(n); cut > 0 {
			pieces = append(pieces, bits(arg, n-1, cut), bits(arg, cut-1, 0))
		} else {
			pieces = append(pieces, bits(arg, n-1, 0))
		}
	}
	for room > 0 {
		n := 1 + r.Intn(room)
		room -= n
		s := ""
		for range n {
			s += []string{"0", "1", "x", "x", "0"}[r.Intn(5)]
		}
		pieces = append(pieces, lit(s))
	}
	for _, n := range r.Perm(len(pieces)) {
		f.Pieces = append(f.Pieces, pieces[n])
	}
	return f
}

// TestDisjointSlowly holds Disjoint of many small forms against the slower way; no bytes are an instruction of two forms that are disjoint.
func TestDisjointSlowly(t *testing.T) {
	r := rand.New(rand.NewSource(5))
	counts := [2]int{}
	for range 300 {
		d := api.Desc{Order: 1 + r.Intn(2), Files: []api.File{{Count: 32, Width: 8, Zero: -1}}, Classes: smallClasses(r)}
		for range 12 {
			d.Forms = append(d.Forms, smallForm(r, d.Classes))
		}
		for i := range d.Forms {
			for j := range d.Forms {
				want := slowDisjoint(d, i, j)
				if isacheck.Disjoint(d, i, j) != want {
					t.Fatalf("%+v\n%+v\nof %+v: not %v", d.Forms[i], d.Forms[j], d.Classes, want)
				}
				if want {
					counts[1]++
				} else {
					counts[0]++
				}
			}
		}
		if i, j := r.Intn(12), r.Intn(12); isacheck.Disjoint(d, i, j) {
			noBytesAreBoth(t, d, i, j)
		}
	}
	if counts[0] < 5000 || counts[1] < 5000 {
		t.Error("of one kind mostly", counts)
	}
}

func noBytesAreBoth(t *testing.T, d api.Desc, i, j int) {
	t.Helper()
	a, b := cells(d.Order, d.Forms[i]), cells(d.Order, d.Forms[j])
	n := max(len(a), len(b))
	for code := range 1 << n {
		bytes := make([]byte, n)
		for p := range bytes {
			bytes[p] = "01"[code>>p&1]
		}
		if has(d, d.Forms[i], a, string(bytes)) && has(d, d.Forms[j], b, string(bytes)) {
			t.Fatalf("%s is both\n%+v\n%+v\nof %+v", bytes, d.Forms[i], d.Forms[j], d.Classes)
		}
	}
}

// numbers are what a number may be exchanged for.
var numbers = []int{math.MinInt, -65, -2, -1, 0, 1, 2, 3, 4, 5, 6, 7, 8, 9, 12, 15, 16, 17, 20, 31, 32, 63, 64, 65, 127, 128, 129, 1 << 32, math.MaxInt}

// texts are what a text may be exchanged for.
var texts = []string{"", "0", "x", "00000000", "1111111x", "0000", "2", "\xff", strings.Repeat("01", 60), strings.Repeat("x", 128)}

// parts are all numbers, texts and lists of a value.
func parts(v reflect.Value) []reflect.Value {
	var l []reflect.Value
	switch v.Kind() {
	case reflect.Struct:
		for n := range v.NumField() {
			l = append(l, parts(v.Field(n))...)
		}
	case reflect.Slice:
		l = append(l, v)
		for n := range v.Len() {
			l = append(l, parts(v.Index(n))...)
		}
	default:
		l = append(l, v)
	}
	return l
}

// exchange puts something else at one of a description's parts.
func exchange(r *rand.Rand, d *api.Desc) {
	all := parts(reflect.ValueOf(d).Elem())
	v := all[r.Intn(len(all))]
	switch v.Kind() {
	case reflect.Int:
		v.SetInt(int64(numbers[r.Intn(len(numbers))]))
	case reflect.String:
		v.SetString(texts[r.Intn(len(texts))])
	case reflect.Bool:
		v.SetBool(!v.Bool())
	case reflect.Slice:
		switch n := v.Len(); {
		case n > 0 && r.Intn(2) == 0:
			v.Set(v.Slice(0, n-1))
		case n > 0:
			v.Set(reflect.Append(v.Slice3(0, n, n), v.Index(r.Intn(n))))
		default:
			v.Set(reflect.MakeSlice(v.Type(), 1, 1))
		}
	}
}

// TestMixed holds what the calls say of many descriptions with parts exchanged against one another.
func TestMixed(t *testing.T) {
	r := rand.New(rand.NewSource(55))
	met := map[api.Errno]int{}
	for range 10000 {
		d := roomy(toy())
		if r.Intn(2) == 0 {
			d.Order = api.OrderWord
		}
		if r.Intn(8) == 0 {
			i, j := r.Intn(len(d.Forms)), r.Intn(len(d.Forms))
			d.Forms[i].Args, d.Forms[i].Pieces = roomy(d).Forms[j].Args, roomy(d).Forms[j].Pieces
		}
		for range 1 + r.Intn(3) {
			exchange(r, &d)
		}
		n, e := isacheck.Check(d)
		met[e]++
		agrees(t, d, n, e)
	}
	for _, e := range []api.Errno{api.OK, api.ErrCheck, api.ErrPattern, api.ErrType, api.ErrClash} {
		if met[e] < 100 {
			t.Error(e, "was met too seldom", met)
		}
	}
}

// agrees holds Check's answer against those of Size and Disjoint.
func agrees(t *testing.T, d api.Desc, n int, e api.Errno) {
	t.Helper()
	right := len(d.Forms) // so many forms from the first on have right patterns
	clash := -1
	for j := len(d.Forms) - 1; j >= 0; j-- {
		if isacheck.Size(d, j) == 0 {
			right = j
		}
		for i := range j {
			apart := isacheck.Disjoint(d, i, j)
			if apart != isacheck.Disjoint(d, j, i) {
				t.Errorf("%d and %d: not as %d and %d: %+v", i, j, j, i, d)
			}
			if !apart {
				clash = j
			}
		}
	}
	ok := false
	switch e {
	case api.ErrCheck:
		ok = n == -1
	case api.ErrPattern:
		ok = n == right
	case api.ErrType:
		ok = n >= 0 && n < right
	case api.ErrClash:
		ok = n == clash && right == len(d.Forms)
	case api.OK:
		ok = n == 0 && clash == -1 && right == len(d.Forms)
	}
	if !ok {
		t.Fatalf("%d %d, but the patterns are right up to %d, and %d clashes: %+v", n, e, right, clash, d)
	}
}
