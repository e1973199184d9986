package codec_test

import (
	"bytes"
	"math/big"
	"math/rand"
	"reflect"
	"slices"
	"strings"
	"testing"

	"dovetail/api"
	"dovetail/codec"
	"dovetail/isacheck"
)

// A slower reading of the chapter, along the pattern, with bits as letters and numbers of any size.

// slowBits are the encoded bits of a value as letters, the highest first; ok is false, if the class doesn't have it.
func slowBits(c api.Class, value int) (string, bool) {
	n := big.NewInt(int64(value))
	n.Sub(n, big.NewInt(int64(c.Plus)))
	n, rest := n.DivMod(n, new(big.Int).Lsh(big.NewInt(1), uint(c.Shift)), new(big.Int))
	low, count := big.NewInt(0), new(big.Int).Lsh(big.NewInt(1), uint(c.Bits))
	if c.Kind >= api.ClassSgn {
		low.Rsh(count, 1).Neg(low)
	}
	top := new(big.Int).Add(low, count)
	if rest.Sign() != 0 || n.Cmp(low) < 0 || n.Cmp(top) >= 0 || slices.Contains(c.Except, value) {
		return "", false
	}
	if n.Sign() < 0 {
		n.Add(n, count)
	}
	s := n.Text(2)
	return strings.Repeat("0", c.Bits-len(s)) + s, true
}

// slowValue is the value of encoded bits, told as letters; ok is false, if its class excepts it.
func slowValue(c api.Class, bits string) (int, bool) {
	n, _ := new(big.Int).SetString(bits, 2)
	if c.Kind >= api.ClassSgn && bits[0] == '1' {
		n.Sub(n, new(big.Int).Lsh(big.NewInt(1), uint(c.Bits)))
	}
	n.Lsh(n, uint(c.Shift)).Add(n, big.NewInt(int64(c.Plus)))
	return int(n.Int64()), !slices.Contains(c.Except, int(n.Int64()))
}

// slowEncode is Encode by a right description.
func slowEncode(d api.Desc, in api.Insn) ([]byte, api.Errno) {
	if in.Form < 0 || in.Form >= len(d.Forms) || len(in.Vals) != len(d.Forms[in.Form].Args) {
		return nil, api.ErrInsn
	}
	var operands []string
	for n, a := range d.Forms[in.Form].Args {
		bits, ok := slowBits(d.Classes[a.Class], in.Vals[n])
		if !ok {
			return nil, api.ErrRange
		}
		operands = append(operands, bits)
	}
	written := ""
	for _, p := range d.Forms[in.Form].Pieces {
		if p.Arg < 0 {
			written += strings.ReplaceAll(p.Lit, "x", "0")
		} else {
			top := len(operands[p.Arg]) - 1
			written += operands[p.Arg][top-p.Hi : top-p.Lo+1]
		}
	}
	return inOrder(d.Order, written), api.OK
}

// slowDecode is Decode by a right description; more than one instruction is a fault of the test.
func slowDecode(d api.Desc, b []byte) (api.Insn, int, api.Errno) {
	met, in, size := 0, api.Insn{}, 0
	for n := range d.Forms {
		if vals, k, ok := slowForm(d, n, b); ok {
			met++
			in, size = api.Insn{Form: n, Vals: vals}, k
		}
	}
	switch met {
	case 0:
		return api.Insn{}, 0, api.ErrNoInsn
	case 1:
		return in, size, api.OK
	}
	panic("more than one instruction")
}

// slowForm are the values and the size of the form's instruction with which bytes begin.
func slowForm(d api.Desc, form int, b []byte) ([]int, int, bool) {
	f, size := d.Forms[form], isacheck.Size(d, form)
	if len(b) < size {
		return nil, 0, false
	}
	written := lettersOf(d.Order, b[:size])
	operands := make([][]byte, len(f.Args))
	for n, a := range f.Args {
		operands[n] = make([]byte, d.Classes[a.Class].Bits)
	}
	for _, p := range f.Pieces {
		if p.Arg >= 0 {
			k := operands[p.Arg]
			written = written[copy(k[len(k)-1-p.Hi:len(k)-p.Lo], written):]
			continue
		}
		for n := range p.Lit {
			if p.Lit[n] != 'x' && p.Lit[n] != written[n] {
				return nil, 0, false
			}
		}
		written = written[len(p.Lit):]
	}
	var vals []int
	for n, a := range f.Args {
		v, ok := slowValue(d.Classes[a.Class], string(operands[n]))
		if !ok {
			return nil, 0, false
		}
		vals = append(vals, v)
	}
	return vals, size, true
}

// lettersOf are the bits of bytes as they are written.
func lettersOf(order int, b []byte) string {
	l := slices.Clone(b)
	if order == api.OrderWord {
		slices.Reverse(l)
	}
	s := ""
	for _, n := range l {
		for bit := 7; bit >= 0; bit-- {
			s += string("01"[n>>bit&1])
		}
	}
	return s
}

// agrees holds Encode and Has of an instruction, and Decode of bytes, against the slower reading.
func agrees(t *testing.T, d api.Desc, c *codec.Codec, in api.Insn) []byte {
	t.Helper()
	want, fault := slowEncode(d, in)
	b, e := c.Encode(in)
	if e != fault || !bytes.Equal(b, want) {
		t.Fatalf("%v is % x, %v, not % x, %v: %+v", in, b, e, want, fault, d)
	}
	if e != api.ErrInsn {
		for n, a := range d.Forms[in.Form].Args {
			if _, ok := slowBits(d.Classes[a.Class], in.Vals[n]); c.Has(a.Class, in.Vals[n]) != ok {
				t.Fatalf("%+v: %d: not %v", d.Classes[a.Class], in.Vals[n], ok)
			}
		}
	}
	return b
}

func agreesBack(t *testing.T, d api.Desc, c *codec.Codec, b []byte) {
	t.Helper()
	want, size, fault := slowDecode(d, b)
	in, n, e := c.Decode(b)
	if e != fault || n != size || in.Form != want.Form || !slices.Equal(in.Vals, want.Vals) {
		t.Fatalf("% x is %v, %d, %v, not %v, %d, %v: %+v", b, in, n, e, want, size, fault, d)
	}
	if e != api.OK || !c.Canonical(in.Form) {
		return
	}
	if again, e := c.Encode(in); e != api.OK || !bytes.Equal(again, b[:n]) {
		t.Fatalf("% x is % x, %v again: %+v", b[:n], again, e, d)
	}
}

// anyClass has few bits or many, and excepts some of its values.
func anyClass(r *rand.Rand, most int) api.Class {
	c := api.Class{Kind: 1 + r.Intn(5)}
	switch c.Kind {
	case api.ClassReg:
		c.Bits = 1 + r.Intn(min(most, 6))
		c.Plus = r.Intn(65 - 1<<c.Bits)
	case api.ClassUns:
		c.Bits = 1 + r.Intn(min(most, 62))
		c.Shift = r.Intn(63 - c.Bits)
	default:
		c.Bits = 1 + r.Intn(min(most, 64))
		c.Shift = r.Intn(65 - c.Bits)
	}
	if r.Intn(2) == 0 {
		c.Shift = min(c.Shift, r.Intn(3))
	}
	for range r.Intn(4) {
		c.Except = append(c.Except, nearly(r, c))
	}
	return c
}

// nearly is a value of a class, now and then one that it doesn't have.
func nearly(r *rand.Rand, c api.Class) int {
	v, _ := slowValue(c, lettersOf(api.OrderBytes, binary(r))[:c.Bits])
	switch r.Intn(12) {
	case 0:
		return v + 1<<r.Intn(64)
	case 1:
		return far[r.Intn(len(far))]
	case 2:
		return int(r.Uint64())
	case 3:
		return c.Plus
	}
	return v
}

// binary are eight bytes, of which many are 0 or 0xFF.
func binary(r *rand.Rand) []byte {
	b := make([]byte, 8)
	switch r.Intn(4) {
	case 0:
		return b
	case 1:
		return bytes.Repeat([]byte{0xFF}, 8)
	}
	r.Read(b)
	return b
}

// anyForm has so many bits, right ones.
func anyForm(r *rand.Rand, classes []api.Class, room int) api.Form {
	var f api.Form
	var pieces []api.Piece
	for range r.Intn(api.MaxArgs + 1) {
		k := r.Intn(len(classes))
		n := classes[k].Bits
		if n > room {
			continue
		}
		room -= n
		for n > 0 {
			cut := r.Intn(n)
			pieces = append(pieces, api.Piece{Arg: len(f.Args), Hi: n - 1, Lo: cut})
			n = cut
		}
		f.Args = append(f.Args, api.Arg{Class: k})
	}
	for room > 0 {
		n := 1 + r.Intn(room)
		room -= n
		s := ""
		for range n {
			s += string("01x01"[r.Intn(5)])
		}
		pieces = append(pieces, api.Piece{Arg: -1, Lit: s})
	}
	for _, n := range r.Perm(len(pieces)) {
		f.Pieces = append(f.Pieces, pieces[n])
	}
	return f
}

// anyDesc is a right description of forms that are disjoint.
func anyDesc(r *rand.Rand, mostBits, mostBytes int) api.Desc {
	d := api.Desc{Order: 1 + r.Intn(2), Files: []api.File{{Count: 64, Width: 8, Zero: -1}}}
	for range 1 + r.Intn(8) {
		d.Classes = append(d.Classes, anyClass(r, mostBits))
	}
	for range 1 + r.Intn(30) {
		d.Forms = append(d.Forms, anyForm(r, d.Classes, 8*(1+r.Intn(mostBytes))))
		if _, e := isacheck.Check(d); e != api.OK {
			d.Forms = d.Forms[:len(d.Forms)-1]
		}
	}
	return d
}

// mixed holds many descriptions against the slower reading, and counts how often Encode and Decode answered what.
func mixed(t *testing.T, seed int64, count, mostBits, mostBytes int) {
	t.Helper()
	r := rand.New(rand.NewSource(seed))
	met, metBack := map[api.Errno]int{}, map[api.Errno]int{}
	for range count {
		d := anyDesc(r, mostBits, mostBytes)
		c := made(roomy(d))
		for range 40 {
			in := api.Insn{Form: r.Intn(len(d.Forms)+1) - r.Intn(10)/9}
			if in.Form >= 0 && in.Form < len(d.Forms) {
				for _, a := range d.Forms[in.Form].Args {
					in.Vals = append(in.Vals, nearly(r, d.Classes[a.Class]))
				}
			}
			if r.Intn(10) == 0 {
				in.Vals = append(in.Vals, 0)
			}
			_, e := c.Encode(in)
			met[e]++
			b := agrees(t, d, c, in)
			if e != api.OK {
				b = binary(r)
			} else {
				decodes(t, "again", c, append(slices.Clone(b), binary(r)...), in, len(b))
			}
			for range 10 {
				b = other(r, b)
				_, _, e = c.Decode(b)
				metBack[e]++
				agreesBack(t, d, c, b)
			}
		}
		for n := range d.Forms {
			if c.Canonical(n) == strings.Contains(lits(d.Forms[n]), "x") {
				t.Fatalf("%+v: %v", d.Forms[n], c.Canonical(n))
			}
		}
	}
	for _, e := range []api.Errno{api.OK, api.ErrInsn, api.ErrRange} {
		if met[e] < 100 {
			t.Error(e, "was met too seldom", met)
		}
	}
	if metBack[api.OK] < 1000 || metBack[api.ErrNoInsn] < 1000 {
		t.Error("of one kind mostly", metBack)
	}
}

// lits are all literals of a form.
func lits(f api.Form) string {
	s := ""
	for _, p := range f.Pieces {
		s += p.Lit
	}
	return s
}

// other are bytes with a bit turned, cut, or made longer.
func other(r *rand.Rand, b []byte) []byte {
	b = slices.Clone(b)
	switch k := r.Intn(8); {
	case k == 0:
		return append(b, binary(r)...)
	case len(b) == 0:
		return binary(r)
	case k == 1:
		return b[:r.Intn(len(b))]
	case k < 7:
		b[r.Intn(len(b))] ^= 1 << r.Intn(8)
	}
	return b
}

func TestMixedSmall(t *testing.T) { mixed(t, 6, 400, 6, 2) }

func TestMixedLong(t *testing.T) { mixed(t, 66, 300, 64, 15) }

// TestMixedAll holds all bytes of two against the slower reading.
func TestMixedAll(t *testing.T) {
	r := rand.New(rand.NewSource(666))
	for range 4 {
		d := anyDesc(r, 5, 2)
		c := made(d)
		for n := range 1 << 16 {
			agreesBack(t, d, c, []byte{byte(n), byte(n >> 8)})
		}
	}
}

// TestMixedNew: New answers what layer 5's Check does.
func TestMixedNew(t *testing.T) {
	r := rand.New(rand.NewSource(6666))
	met := map[api.Errno]int{}
	for range 3000 {
		d := roomy(toy())
		if r.Intn(2) == 0 {
			d.Order = api.OrderWord
		}
		exchange(r, reflect.ValueOf(&d).Elem())
		_, want := isacheck.Check(d)
		c, e := codec.New(d)
		met[e]++
		if e != want || (c == nil) != (e != api.OK) {
			t.Fatalf("%v %v, not %v: %+v", c, e, want, d)
		}
		if e == api.OK {
			said(c)
		}
	}
	for _, e := range []api.Errno{api.OK, api.ErrCheck, api.ErrPattern, api.ErrType, api.ErrClash} {
		if met[e] < 5 {
			t.Error(e, "was met too seldom", met)
		}
	}
}

// exchange puts something else at one of a description's numbers and texts.
func exchange(r *rand.Rand, v reflect.Value) {
	all := leaves(v)
	switch k := all[r.Intn(len(all))]; k.Kind() {
	case reflect.Int:
		numbers := append([]int{-1, 0, 1, 2, 3, 4, 5, 8, 12, 16, 20, 31, 62, 63, 64, 65, 128}, far...)
		k.SetInt(int64(numbers[r.Intn(len(numbers))]))
	case reflect.String:
		k.SetString([]string{"", "x", "00000000", "0010000x", "2", "0100000x"}[r.Intn(6)])
	case reflect.Bool:
		k.SetBool(!k.Bool())
	}
}

// leaves are all numbers and texts of a value.
func leaves(v reflect.Value) []reflect.Value {
	var l []reflect.Value
	switch v.Kind() {
	case reflect.Struct:
		for n := range v.NumField() {
			l = append(l, leaves(v.Field(n))...)
		}
	case reflect.Slice:
		for n := range v.Len() {
			l = append(l, leaves(v.Index(n))...)
		}
	default:
		l = append(l, v)
	}
	return l
}
