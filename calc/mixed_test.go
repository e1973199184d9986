package calc_test

import (
	"bytes"
	"math/big"
	"math/rand"
	"reflect"
	"slices"
	"strings"
	"testing"

	"dovetail/api"
	"dovetail/calc"
	"dovetail/isacheck"
)

// A slower reading of the chapter, along the pattern, with bits as letters and numbers of any size.

// wrapped is the number of 64 bits with a sign that is the same modulo 2^64.
func wrapped(n *big.Int) int {
	span := new(big.Int).Lsh(big.NewInt(1), 64)
	m := new(big.Int).Mod(n, span)
	if m.Bit(63) == 1 {
		m.Sub(m, span)
	}
	return int(m.Int64())
}

// slowValue is a formula's value ahead of its being wrapped round, which is the same modulo 2^64.
func slowValue(t api.Term, e api.Env) *big.Int {
	names := map[int]int{api.OpConst: t.A, api.OpSym: e.S, api.OpAddend: e.A, api.OpPlace: e.P, api.OpGot: e.G, api.OpTp: e.T, api.OpGotTp: e.H}
	if n, ok := names[t.Op]; ok {
		return big.NewInt(int64(n))
	}
	first := slowValue(t.Kids[0], e)
	switch t.Op {
	case api.OpAdd:
		return first.Add(first, slowValue(t.Kids[1], e))
	case api.OpSub:
		return first.Sub(first, slowValue(t.Kids[1], e))
	}
	return first.Sub(first, new(big.Int).Mod(first, big.NewInt(4096)))
}

// letters are so many bits of a number, the highest first.
func letters(n *big.Int, bits int) string {
	m := new(big.Int).Mod(n, new(big.Int).Lsh(big.NewInt(1), uint(bits)))
	s := m.Text(2)
	return strings.Repeat("0", bits-len(s)) + s
}

// madeOf is the value of encoded bits, told as letters, and whether its class excepts it.
func madeOf(c api.Class, bits string) (int, bool) {
	n, _ := new(big.Int).SetString(bits, 2)
	if c.Kind >= api.ClassSgn && bits[0] == '1' {
		n.Sub(n, new(big.Int).Lsh(big.NewInt(1), uint(c.Bits)))
	}
	n.Lsh(n, uint(c.Shift)).Add(n, big.NewInt(int64(c.Plus)))
	return int(n.Int64()), slices.Contains(c.Except, int(n.Int64()))
}

// turned are bytes in the order in which a pattern's bits are written.
func turned(order int, b []byte) []byte {
	l := slices.Clone(b)
	if order == api.OrderWord {
		slices.Reverse(l)
	}
	return l
}

// slowForm says whether bytes begin with an instruction of a form, and what bits, told as letters, its operands have.
func slowForm(d api.Desc, form int, b []byte) ([]string, bool) {
	size := isacheck.Size(d, form)
	if len(b) < size {
		return nil, false
	}
	written := letters(new(big.Int).SetBytes(turned(d.Order, b[:size])), 8*size)
	operands := make([][]byte, len(d.Forms[form].Args))
	for n, a := range d.Forms[form].Args {
		operands[n] = make([]byte, d.Classes[a.Class].Bits)
	}
	for _, p := range d.Forms[form].Pieces {
		if p.Arg >= 0 {
			k := operands[p.Arg]
			written = written[copy(k[len(k)-1-p.Hi:len(k)-p.Lo], written):]
			continue
		}
		for n := range p.Lit {
			if p.Lit[n] != 'x' && p.Lit[n] != written[n] {
				return nil, false
			}
		}
		written = written[len(p.Lit):]
	}
	var out []string
	for n, a := range d.Forms[form].Args {
		if _, excepted := madeOf(d.Classes[a.Class], string(operands[n])); excepted {
			return nil, false
		}
		out = append(out, string(operands[n]))
	}
	return out, true
}

// slowFill writes over the instruction at a place, and answers its size.
func slowFill(d api.Desc, b []byte, at, class int, bits string) (int, api.Errno) {
	if at < 0 || at > len(b) {
		return 0, api.ErrRelInsn
	}
	for form, f := range d.Forms {
		operands, ok := slowForm(d, form, b[at:])
		if !ok {
			continue
		}
		n := slices.IndexFunc(f.Args, func(a api.Arg) bool { return a.Class == class })
		if n < 0 {
			return 0, api.ErrRelInsn
		}
		operands[n] = strings.Repeat("0", d.Classes[class].Bits-len(bits)) + bits
		if _, excepted := madeOf(d.Classes[class], operands[n]); excepted {
			return 0, api.ErrRange
		}
		return copy(b[at:], written(d, form, operands)), api.OK
	}
	return 0, api.ErrRelInsn
}

// written are the bytes of a form with operands of such bits.
func written(d api.Desc, form int, operands []string) []byte {
	s := ""
	for _, p := range d.Forms[form].Pieces {
		if p.Arg < 0 {
			s += strings.ReplaceAll(p.Lit, "x", "0")
		} else {
			top := len(operands[p.Arg]) - 1
			s += operands[p.Arg][top-p.Hi : top-p.Lo+1]
		}
	}
	n, _ := new(big.Int).SetString(s, 2)
	return turned(d.Order, n.FillBytes(make([]byte, len(s)/8)))
}

// slowApply is Apply by a right description.
func slowApply(d api.Desc, x api.Rel, b []byte, at, v int) ([]byte, api.Errno) {
	out := slices.Clone(b)
	w := new(big.Int).Add(big.NewInt(int64(v)), big.NewInt(int64(x.Round)))
	switch x.Kind {
	case api.RelData:
		if at < 0 || at > len(b) || x.Bytes > len(b)-at {
			return nil, api.ErrBuf
		}
		n, _ := new(big.Int).SetString(letters(big.NewInt(int64(v)), 8*x.Bytes), 2)
		l := n.FillBytes(make([]byte, x.Bytes))
		slices.Reverse(l)
		copy(out[at:], l)
	case api.RelInsn:
		all := letters(w, 64)
		if _, e := slowFill(d, out, at, x.Class, all[63-x.Hi:64-x.Lo]); e != api.OK {
			return nil, e
		}
	case api.RelPair:
		size, e := slowFill(d, out, at, x.Class, letters(w, 32)[:20])
		if e == api.OK {
			_, e = slowFill(d, out, at+size, x.Class2, letters(big.NewInt(int64(v)), 12))
		}
		if e != api.OK {
			return nil, e
		}
	}
	return out, api.OK
}

// anyNumber has few bits or many.
func anyNumber(r *rand.Rand) int {
	switch r.Intn(8) {
	case 0:
		return far[r.Intn(len(far))]
	case 1:
		return r.Intn(16) - 8
	case 2:
		return 1<<r.Intn(64) - r.Intn(3)
	}
	return int(r.Uint64()) >> r.Intn(64)
}

// anyFormula is a right one.
func anyFormula(r *rand.Rand, depth int) api.Term {
	switch k := r.Intn(10); {
	case depth == 0 || k < 3:
		ops := []int{api.OpConst, api.OpSym, api.OpAddend, api.OpPlace, api.OpGot, api.OpTp, api.OpGotTp}
		return api.Term{Op: ops[r.Intn(len(ops))], W: anyNumber(r), A: anyNumber(r)}
	case k < 5:
		return api.Term{Op: api.OpPage, A: anyNumber(r), Kids: []api.Term{anyFormula(r, depth-1)}}
	}
	return api.Term{Op: api.OpAdd + r.Intn(2), B: anyNumber(r), Kids: []api.Term{anyFormula(r, depth-1), anyFormula(r, depth-1)}}
}

// anyClass is a right one, often of 12 or 20 bits.
func anyClass(r *rand.Rand) api.Class {
	c := api.Class{Kind: 1 + r.Intn(5), Bits: []int{12, 20, 12, 20, 1 + r.Intn(8), 1 + r.Intn(60)}[r.Intn(6)]}
	switch c.Kind {
	case api.ClassReg:
		c.Bits = 1 + r.Intn(6)
		c.Plus = r.Intn(65 - 1<<c.Bits)
	default:
		c.Shift = r.Intn(min(3, 63-c.Bits))
	}
	for range r.Intn(3) {
		v, _ := madeOf(c, letters(big.NewInt(int64(anyNumber(r))), c.Bits))
		c.Except = append(c.Except, v)
	}
	return c
}

// anyForm has some operands and literals, cut and put in any order.
func anyForm(r *rand.Rand, classes []api.Class) api.Form {
	var f api.Form
	var pieces []api.Piece
	bits := 0
	for range r.Intn(4) {
		k := r.Intn(len(classes))
		n := classes[k].Bits
		if bits+n > 110 {
			continue
		}
		bits += n
		for n > 0 {
			low := r.Intn(n) * r.Intn(2)
			pieces = append(pieces, api.Piece{Arg: len(f.Args), Hi: n - 1, Lo: low})
			n = low
		}
		f.Args = append(f.Args, api.Arg{Class: k})
	}
	for rest := 8 + (16-bits%8)%8 - 8*r.Intn(2); rest > 0; {
		n := 1 + r.Intn(rest)
		s := ""
		for range n {
			s += string("01x01"[r.Intn(5)])
		}
		pieces = append(pieces, api.Piece{Arg: -1, Lit: s})
		rest -= n
	}
	for _, n := range r.Perm(len(pieces)) {
		f.Pieces = append(f.Pieces, pieces[n])
	}
	return f
}

// anyRel is a relocation that fits a description's classes, if there are such.
func anyRel(r *rand.Rand, d api.Desc) api.Rel {
	x := api.Rel{Kind: 1 + r.Intn(4), Hi: -1, Calc: anyFormula(r, 4), Sign: r.Intn(4), Width: 1 + r.Intn(64), Align: r.Intn(31) * r.Intn(2), Round: []int{0, 0, 1, 2048, 1 << 32, r.Intn(1 << 32)}[r.Intn(6)]}
	switch x.Kind {
	case api.RelData:
		x.Bytes = 1 + r.Intn(8)
	case api.RelInsn:
		x.Class = r.Intn(len(d.Classes))
		n := min(d.Classes[x.Class].Bits, 1+r.Intn(64))
		x.Lo = r.Intn(65-n) * r.Intn(2)
		x.Hi = x.Lo + n - 1
	case api.RelPair:
		x.Class = slices.IndexFunc(d.Classes, func(c api.Class) bool { return c.Bits == 20 })
		x.Class2 = slices.IndexFunc(d.Classes, func(c api.Class) bool { return c.Bits == 12 })
	}
	return x
}

// anyDesc is a right description of forms that are disjoint, with some relocations.
func anyDesc(r *rand.Rand) api.Desc {
	d := api.Desc{Order: 1 + r.Intn(2), Files: []api.File{{Count: 64, Width: 8, Zero: -1}}}
	for range 2 + r.Intn(5) {
		d.Classes = append(d.Classes, anyClass(r))
	}
	for range 20 {
		d.Forms = append(d.Forms, anyForm(r, d.Classes))
		if _, e := isacheck.Check(d); e != api.OK {
			d.Forms = d.Forms[:len(d.Forms)-1]
		}
	}
	for range 8 {
		d.Rels = append(d.Rels, anyRel(r, d))
		if _, e := isacheck.Check(d); e != api.OK {
			d.Rels = d.Rels[:len(d.Rels)-1]
		}
	}
	return d
}

// anyInsn are the bytes of an instruction of a description, if it has forms, some of its bits any; often one with an operand of a class.
func anyInsn(r *rand.Rand, d api.Desc, class int) []byte {
	var forms []int
	for n, f := range d.Forms {
		if slices.ContainsFunc(f.Args, func(a api.Arg) bool { return a.Class == class }) {
			forms = append(forms, n)
		}
	}
	if len(d.Forms) == 0 {
		return nil
	}
	form := r.Intn(len(d.Forms))
	if len(forms) > 0 && r.Intn(8) > 0 {
		form = forms[r.Intn(len(forms))]
	}
	marked := slices.Clone(d.Forms[form].Pieces)
	for n := range marked {
		if r.Intn(2) == 0 {
			marked[n].Lit = strings.ReplaceAll(marked[n].Lit, "x", "1")
		}
	}
	d.Forms = slices.Clone(d.Forms)
	d.Forms[form].Pieces = marked
	var operands []string
	for _, a := range d.Forms[form].Args {
		operands = append(operands, letters(big.NewInt(int64(anyNumber(r))), d.Classes[a.Class].Bits))
	}
	return written(d, form, operands)
}

// TestMixed holds all calls against the slower reading, over many descriptions.
func TestMixed(t *testing.T) {
	r := rand.New(rand.NewSource(11))
	met := map[[2]int]int{}
	checked := map[api.Errno]int{}
	for range 1000 {
		d := anyDesc(r)
		p := made(roomy(d))
		for rel, x := range d.Rels {
			for range 12 {
				e := api.Env{S: anyNumber(r), A: anyNumber(r), P: anyNumber(r), G: anyNumber(r), T: anyNumber(r), H: anyNumber(r)}
				want := 0
				if x.Kind != api.RelNone {
					want = wrapped(slowValue(x.Calc, e))
				}
				if v, f := p.Value(rel, e); v != want || f != api.OK {
					t.Fatalf("%+v: %+v: %d, %v, not %d", x, e, v, f, want)
				}
				v := anyNumber(r)
				if got, want := p.Check(rel, v), slowCheck(x, v); got != want {
					t.Fatalf("%+v: %d: %v, not %v", x, v, got, want)
				}
				checked[p.Check(rel, v)]++
				b, at := place(r, d, x)
				bytesWant, fault := slowApply(d, x, b, at, v)
				out, f := p.Apply(rel, b, at, v)
				if f != fault || !bytes.Equal(out, bytesWant) {
					t.Fatalf("%+v: %#x in % x at %d: % x, %v, not % x, %v: %+v", x, v, b, at, out, f, bytesWant, fault, d)
				}
				met[[2]int{x.Kind, int(f)}]++
			}
		}
	}
	for _, k := range [][2]int{{1, 0}, {2, 0}, {2, 21}, {3, 0}, {3, 112}, {3, 64}, {4, 0}, {4, 112}, {4, 64}} {
		if met[k] < 40 {
			t.Error(k, "was met too seldom", met)
		}
	}
	for _, e := range []api.Errno{api.OK, api.ErrRelRange, api.ErrRelAlign} {
		if checked[e] < 1000 {
			t.Error(e, "was met too seldom", checked)
		}
	}
}

// place are bytes, and a place in them, where a relocation's instructions stand, mostly.
func place(r *rand.Rand, d api.Desc, x api.Rel) ([]byte, int) {
	b := make([]byte, r.Intn(4))
	r.Read(b)
	at := len(b)
	b = append(b, anyInsn(r, d, x.Class)...)
	if x.Kind == api.RelPair {
		b = append(b, anyInsn(r, d, x.Class2)...)
	}
	b = append(b, make([]byte, r.Intn(4))...)
	switch r.Intn(20) {
	case 0:
		b = b[:r.Intn(len(b)+1)]
	case 1:
		at = anyNumber(r)
	}
	return b, at
}

// TestMixedNew: New answers what layer 5's Check does.
func TestMixedNew(t *testing.T) {
	r := rand.New(rand.NewSource(1111))
	met := map[api.Errno]int{}
	for range 2000 {
		d := roomy(toy())
		exchange(r, reflect.ValueOf(&d).Elem())
		_, want := isacheck.Check(d)
		p, e := calc.New(d)
		met[e]++
		if e != want || (p == nil) != (e != api.OK) {
			t.Fatalf("%v %v, not %v: %+v", p, e, want, d)
		}
		if e == api.OK {
			said(p)
		}
	}
	for _, e := range []api.Errno{api.OK, api.ErrCheck, api.ErrPattern, api.ErrClash} {
		if met[e] < 5 {
			t.Error(e, "was met too seldom", met)
		}
	}
}

// exchange puts something else at one of a description's numbers and texts.
func exchange(r *rand.Rand, v reflect.Value) {
	all := leaves(v)
	switch k := all[r.Intn(len(all))]; k.Kind() {
	case reflect.Int:
		numbers := append([]int{-1, 0, 1, 2, 3, 4, 5, 8, 12, 16, 20, 31, 62, 63, 64, 65, 128}, far...)
		k.SetInt(int64(numbers[r.Intn(len(numbers))]))
	case reflect.String:
		k.SetString([]string{"", "x", "0000xxxx", "0010xxxx", "2", "0100x"}[r.Intn(6)])
	}
}

// leaves are all numbers and texts of a value.
func leaves(v reflect.Value) []reflect.Value {
	var l []reflect.Value
	switch v.Kind() {
	case reflect.Struct:
		for n := range v.NumField() {
			l = append(l, leaves(v.Field(n))...)
		}
	case reflect.Slice:
		for n := range v.Len() {
			l = append(l, leaves(v.Index(n))...)
		}
	default:
		l = append(l, v)
	}
	return l
}
