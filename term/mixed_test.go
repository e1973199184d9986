package term_test

import (
	"math"
	"math/big"
	"math/rand"
	"testing"

	"dovetail/api"
	"dovetail/mem"
	"dovetail/term"
)

// A slower reading of the chapter: bits are numbers of any size, and memory is a map of addresses.

// cell is a byte of memory, with its region's permissions.
type cell struct {
	perm int
	b    byte
}

// slow is an instruction with all that it is reckoned over.
type slow struct {
	d     api.Desc
	in    api.Insn
	size  int
	c     api.Cpu
	cells map[uint64]cell
}

func cellsOf(l []api.Region) map[uint64]cell {
	out := map[uint64]cell{}
	for _, r := range l {
		for n, b := range r.Bytes {
			out[r.At+uint64(n)] = cell{r.Perm, b}
		}
	}
	return out
}

// may says whether bytes lie in regions with a permission.
func (s *slow) may(at uint64, n, perm int) bool {
	for k := range n {
		if c, there := s.cells[at+uint64(k)]; !there || c.perm&perm == 0 || at+uint64(k) < at {
			return false
		}
	}
	return true
}

func power(w int) *big.Int { return new(big.Int).Lsh(big.NewInt(1), uint(w)) }

// number is a value of so many bits, and how many these are.
type number struct {
	*big.Int
	w int
}

// cut is a number modulo 2^w.
func cut(n *big.Int, w int) number { return number{new(big.Int).Mod(n, power(w)), w} }

func numberOf(v uint64, w int) number { return cut(new(big.Int).SetUint64(v), w) }

func numberIf(is bool) number {
	if is {
		return numberOf(1, 1)
	}
	return numberOf(0, 1)
}

// signed is a number with its sign.
func (n number) signed() *big.Int {
	if n.Bit(n.w-1) == 0 {
		return n.Int
	}
	return new(big.Int).Sub(n.Int, power(n.w))
}

func (n number) bits() api.Bits {
	low := new(big.Int).And(n.Int, new(big.Int).SetUint64(math.MaxUint64))
	return api.Bits{W: n.w, Hi: new(big.Int).Rsh(n.Int, 64).Uint64(), Lo: low.Uint64()}
}

// eval is a term's number; else the address of the first load that isn't there.
func (s *slow) eval(t api.Term) (number, *uint64) {
	if t.Op == api.OpIf {
		c, gone := s.eval(t.Kids[0])
		if gone != nil {
			return number{}, gone
		}
		return s.eval(t.Kids[2-c.Int64()])
	}
	var kids []number
	for _, k := range t.Kids {
		n, gone := s.eval(k)
		if gone != nil {
			return number{}, gone
		}
		kids = append(kids, n)
	}
	switch len(kids) {
	case 0:
		return s.leaf(t), nil
	case 1:
		return s.one(t, kids[0])
	}
	return two(t.Op, kids[0], kids[1]), nil
}

func (s *slow) leaf(t api.Term) number {
	switch t.Op {
	case api.OpConst:
		return cut(big.NewInt(int64(t.A)), t.W)
	case api.OpReg:
		n := s.named(t)
		if n == s.d.Files[t.A].Zero {
			return numberOf(0, s.d.Files[t.A].Width)
		}
		return numberOf(s.c.Files[t.A][n], s.d.Files[t.A].Width)
	case api.OpArg:
		return cut(big.NewInt(int64(s.in.Vals[t.A])), t.W)
	case api.OpPc:
		return numberOf(s.c.Pc, 64)
	case api.OpNext:
		return cut(new(big.Int).Add(new(big.Int).SetUint64(s.c.Pc), big.NewInt(int64(s.size))), 64)
	}
	return numberIf(s.c.Flags[t.A])
}

// named is the number of the register that a term or an effect names.
func (s *slow) named(t api.Term) int {
	if t.B >= 0 {
		return s.in.Vals[t.B]
	}
	return -t.B - 1
}

func (s *slow) one(t api.Term, a number) (number, *uint64) {
	switch t.Op {
	case api.OpNot:
		return cut(new(big.Int).Not(a.Int), a.w), nil
	case api.OpNeg:
		return cut(new(big.Int).Neg(a.Int), a.w), nil
	case api.OpSx:
		return cut(a.signed(), t.W), nil
	case api.OpZx:
		return cut(a.Int, t.W), nil
	case api.OpEx:
		return cut(new(big.Int).Rsh(a.Int, uint(t.B)), t.A-t.B+1), nil
	}
	at := a.Uint64()
	if !s.may(at, t.W/8, api.PermR) {
		return number{}, &at
	}
	v := new(big.Int)
	for n := t.W/8 - 1; n >= 0; n-- {
		v.Add(v.Lsh(v, 8), big.NewInt(int64(s.cells[at+uint64(n)].b)))
	}
	return cut(v, t.W), nil
}

func two(op int, a, b number) number {
	x := new(big.Int)
	places := uint(a.w)
	if b.Cmp(big.NewInt(int64(a.w))) < 0 {
		places = uint(b.Int64())
	}
	none := b.Sign() == 0
	switch op {
	case api.OpAdd:
		return cut(x.Add(a.Int, b.Int), a.w)
	case api.OpSub:
		return cut(x.Sub(a.Int, b.Int), a.w)
	case api.OpMul:
		return cut(x.Mul(a.Int, b.Int), a.w)
	case api.OpAnd:
		return cut(x.And(a.Int, b.Int), a.w)
	case api.OpOr:
		return cut(x.Or(a.Int, b.Int), a.w)
	case api.OpXor:
		return cut(x.Xor(a.Int, b.Int), a.w)
	case api.OpShl:
		return cut(x.Lsh(a.Int, places), a.w)
	case api.OpShr:
		return cut(x.Rsh(a.Int, places), a.w)
	case api.OpSar:
		return cut(x.Rsh(a.signed(), places), a.w)
	case api.OpEq:
		return numberIf(a.Cmp(b.Int) == 0)
	case api.OpLtu:
		return numberIf(a.Cmp(b.Int) < 0)
	case api.OpLts:
		return numberIf(a.signed().Cmp(b.signed()) < 0)
	case api.OpCat:
		return cut(x.Add(x.Lsh(a.Int, uint(b.w)), b.Int), a.w+b.w)
	}
	switch {
	case none && (op == api.OpDivu || op == api.OpDivs):
		return cut(big.NewInt(-1), a.w)
	case none:
		return a
	case op == api.OpDivu:
		return cut(x.Quo(a.Int, b.Int), a.w)
	case op == api.OpRemu:
		return cut(x.Rem(a.Int, b.Int), a.w)
	case op == api.OpDivs:
		return cut(x.Quo(a.signed(), b.signed()), a.w)
	}
	return cut(x.Rem(a.signed(), b.signed()), a.w)
}

// slowDo is what Do answers of an instruction that is usable, and what becomes of the cells.
type slowDo struct {
	*slow
	cpu    api.Cpu
	stores []slowStore
	did    api.Did
}

type slowStore struct {
	at uint64
	b  []byte
}

func (s *slow) do() (api.Cpu, api.Did) {
	o := &slowDo{slow: s, cpu: roomy(s.c)}
	next := s.leaf(api.Term{Op: api.OpNext})
	o.cpu.Pc = next.Uint64()
	if !o.effects(s.d.Forms[s.in.Form].Sem) {
		return s.c, o.did
	}
	for _, x := range o.stores {
		if !s.may(x.at, len(x.b), api.PermW) {
			return s.c, noStore(x.at)
		}
	}
	for _, x := range o.stores {
		for n, b := range x.b {
			s.cells[x.at+uint64(n)] = cell{s.cells[x.at+uint64(n)].perm, b}
		}
	}
	return o.cpu, o.did
}

// effects says whether all of them were reckoned.
func (o *slowDo) effects(l []api.Term) bool {
	for _, t := range l {
		if !o.effect(t) {
			return false
		}
	}
	return true
}

func (o *slowDo) effect(t api.Term) bool {
	reckoned := t.Kids
	if t.Op == api.OpWhen {
		reckoned = t.Kids[:1]
	}
	var kids []number
	for _, k := range reckoned {
		n, gone := o.eval(k)
		if gone != nil {
			o.did = noLoad(*gone)
			return false
		}
		kids = append(kids, n)
	}
	switch t.Op {
	case api.OpTrap:
		o.did = trap(t.A)
		return false
	case api.OpSys:
		o.did = api.Did{Kind: api.DidSys}
	case api.OpJump:
		o.cpu.Pc = kids[0].Uint64()
	case api.OpSetFlag:
		o.cpu.Flags[t.A] = kids[0].Sign() > 0
	case api.OpSet:
		if n := o.named(t); n != o.d.Files[t.A].Zero {
			o.cpu.Files[t.A][n] = kids[0].Uint64()
		}
	case api.OpStore:
		b := make([]byte, t.W/8)
		kids[1].FillBytes(b)
		for n := range len(b) / 2 {
			b[n], b[len(b)-1-n] = b[len(b)-1-n], b[n]
		}
		o.stores = append(o.stores, slowStore{kids[0].Uint64(), b})
	case api.OpWhen:
		return kids[0].Sign() == 0 || o.effects(t.Kids[1:])
	}
	return true
}

// maker makes descriptions that are right, and what is done with them.
type maker struct {
	*rand.Rand
	d    api.Desc
	args []api.Arg
}

func pick[T any](m *maker, l ...T) T { return l[m.Intn(len(l))] }

// description has a file of addresses, some other files, and some forms of mixed operands.
func (m *maker) description() {
	m.d = api.Desc{Order: 1 + m.Intn(2), Files: []api.File{{Count: 4, Width: 64, Zero: m.Intn(5) - 1}}}
	for range m.Intn(4) {
		count := 1 + m.Intn(6)
		m.d.Files = append(m.d.Files, api.File{Count: count, Width: pick(m, 1, 8, 16, 31, 32, 33, 63, 64), Zero: m.Intn(count+1) - 1})
	}
	m.d.Flags = make([]string, m.Intn(4))
	for n, f := range m.d.Files {
		if f.Count >= 2 {
			m.d.Classes = append(m.d.Classes, api.Class{Kind: api.ClassReg, File: n, Bits: 1, Plus: m.Intn(f.Count - 1)})
		}
	}
	m.d.Classes = append(m.d.Classes, api.Class{Kind: api.ClassUns, Bits: 5}, api.Class{Kind: api.ClassSgn + m.Intn(3), Bits: 8, Except: []int{0}})
	for n := range 4 {
		f := api.Form{Pieces: []api.Piece{{Arg: -1, Lit: []string{"00000000", "00000001", "00000010", "00000011"}[n]}}}
		room := 64
		for k := range m.Intn(6) {
			class := m.Intn(len(m.d.Classes))
			f.Args = append(f.Args, api.Arg{Class: class})
			f.Pieces = append(f.Pieces, api.Piece{Arg: k, Hi: m.d.Classes[class].Bits - 1})
			room -= m.d.Classes[class].Bits
		}
		f.Pieces = append(f.Pieces, api.Piece{Arg: -1, Lit: "xxxxxxxxxxxxxxxxxxxxxxxxxxxxxxxxxxxxxxxxxxxxxxxxxxxxxxxxxxxxxxxx"[:room]})
		m.args = f.Args
		for range m.Intn(6) {
			f.Sem = append(f.Sem, m.effect(2))
		}
		m.d.Forms = append(m.d.Forms, f)
	}
}

// register names one of the registers that a form may name.
func (m *maker) register(op int) api.Term {
	file := m.Intn(len(m.d.Files))
	if n := m.Intn(len(m.args) + 1); n > 0 && m.d.Classes[m.args[n-1].Class].Kind == api.ClassReg {
		return api.Term{Op: op, A: m.d.Classes[m.args[n-1].Class].File, B: n - 1}
	}
	return api.Term{Op: op, A: file, B: -1 - m.Intn(m.d.Files[file].Count)}
}

func (m *maker) constant(w int) api.Term {
	return api.Term{Op: api.OpConst, W: w, A: pick(m, 0, 1, 2, -1, -2, m.Intn(256), int(m.Uint64()))}
}

// leaf is a term without parts.
func (m *maker) leaf(w int) api.Term {
	switch m.Intn(6) {
	case 0:
		if r := m.register(api.OpReg); m.d.Files[r.A].Width == w {
			return r
		}
	case 1:
		if n := m.Intn(len(m.args) + 1); n > 0 && m.d.Classes[m.args[n-1].Class].Kind != api.ClassReg {
			return api.Term{Op: api.OpArg, W: w, A: n - 1}
		}
	case 2:
		if w == 64 {
			return api.Term{Op: pick(m, api.OpPc, api.OpNext)}
		}
	case 3:
		if w == 1 && len(m.d.Flags) > 0 {
			return api.Term{Op: api.OpFlag, A: m.Intn(len(m.d.Flags))}
		}
	case 4:
		if w == 64 {
			return api.Term{Op: api.OpReg, B: -1 - m.Intn(4)}
		}
	}
	return m.constant(w)
}

// address is a term that makes addresses which are mostly there.
func (m *maker) address(deep int) api.Term {
	if m.Intn(12) == 0 {
		return m.term(64, deep)
	}
	near := api.Term{Op: api.OpConst, W: 64, A: pick(m, 0, 1, 2, 4, 8, -1, -4)}
	base := pick(m, api.Term{Op: api.OpReg, B: -1 - m.Intn(4)}, api.Term{Op: api.OpConst, W: 64, A: 4096 + m.Intn(24)})
	return api.Term{Op: api.OpAdd, Kids: []api.Term{base, near}}
}

func anyWidth(m *maker) int { return pick(m, 1, 1, 7, 8, 16, 32, 33, 64, 64, 65, 128) }

// term is one of a width, of which parts are nested so deep.
func (m *maker) term(w, deep int) api.Term {
	if deep == 0 {
		return m.leaf(w)
	}
	sub := func(w int) api.Term { return m.term(w, m.Intn(deep)) }
	switch m.Intn(12) {
	case 0:
		return api.Term{Op: pick(m, api.OpShl, api.OpShr, api.OpSar), Kids: []api.Term{sub(w), sub(anyWidth(m))}}
	case 1:
		if w == 1 {
			k := anyWidth(m)
			return api.Term{Op: pick(m, api.OpEq, api.OpLtu, api.OpLts), Kids: []api.Term{sub(k), sub(k)}}
		}
		k := 1 + m.Intn(w-1)
		return api.Term{Op: api.OpCat, Kids: []api.Term{sub(k), sub(w - k)}}
	case 2:
		return api.Term{Op: pick(m, api.OpNot, api.OpNeg), Kids: []api.Term{sub(w)}}
	case 3:
		return api.Term{Op: pick(m, api.OpSx, api.OpZx), W: w, Kids: []api.Term{sub(anyWidth(m))}}
	case 4:
		k := w + m.Intn(129-w)
		low := m.Intn(k - w + 1)
		return api.Term{Op: api.OpEx, A: low + w - 1, B: low, Kids: []api.Term{sub(k)}}
	case 5, 6:
		return api.Term{Op: api.OpIf, Kids: []api.Term{sub(1), sub(w), sub(w)}}
	case 7, 8:
		if w == 8 || w == 16 || w == 32 || w == 64 {
			return api.Term{Op: api.OpLoad, W: w, Kids: []api.Term{m.address(m.Intn(deep))}}
		}
	case 9:
		return m.leaf(w)
	}
	return api.Term{Op: pick(m, 1, 2, 3, 4, 5, 6, 10, 11, 12, 13), Kids: []api.Term{sub(w), sub(w)}}
}

func (m *maker) effect(deep int) api.Term {
	switch m.Intn(12) {
	case 0:
		return api.Term{Op: api.OpJump, Kids: []api.Term{m.term(64, 2)}}
	case 1:
		if m.Intn(2) == 0 {
			return api.Term{Op: api.OpTrap, A: 1 + m.Intn(15)}
		}
		return api.Term{Op: api.OpSys}
	case 2, 3:
		if len(m.d.Flags) > 0 {
			return api.Term{Op: api.OpSetFlag, A: m.Intn(len(m.d.Flags)), Kids: []api.Term{m.term(1, 3)}}
		}
	case 4, 5, 6:
		w := pick(m, 8, 16, 32, 64)
		return api.Term{Op: api.OpStore, W: w, Kids: []api.Term{m.address(2), m.term(w, 3)}}
	case 7, 8:
		if deep > 0 {
			t := api.Term{Op: api.OpWhen, Kids: []api.Term{m.term(1, 2)}}
			for range m.Intn(4) {
				t.Kids = append(t.Kids, m.effect(deep-1))
			}
			return t
		}
	}
	t := m.register(api.OpSet)
	t.Kids = []api.Term{m.term(m.d.Files[t.A].Width, 3)}
	return t
}

// state has addresses that are mostly there in its first file.
func (m *maker) state() api.Cpu {
	c := api.Cpu{Pc: pick(m, 0, 4096, top-2, m.Uint64())}
	for n, f := range m.d.Files {
		l := make([]uint64, f.Count)
		for k := range l {
			l[k] = pick(m, 0, 1, m.Uint64(), top, 1<<63) & (1<<(f.Width-1)<<1 - 1)
			if n == 0 {
				l[k] = pick(m, 4096+m.Uint64()%24, 4096+m.Uint64()%40, top-7, l[k])
			}
		}
		c.Files = append(c.Files, l)
	}
	for range m.d.Flags {
		c.Flags = append(c.Flags, m.Intn(2) == 0)
	}
	return c
}

// insn is an instruction that is usable.
func (m *maker) insn() api.Insn {
	in := api.Insn{Form: m.Intn(len(m.d.Forms))}
	for _, a := range m.d.Forms[in.Form].Args {
		if k := m.d.Classes[a.Class]; k.Kind == api.ClassReg {
			in.Vals = append(in.Vals, m.Intn(m.d.Files[k.File].Count))
		} else {
			in.Vals = append(in.Vals, pick(m, 0, 1, -1, m.Intn(256)-128, int(m.Uint64())))
		}
	}
	return in
}

// memory is some regions that mostly may be read and written.
func (m *maker) memory() []api.Region {
	var l []api.Region
	at := uint64(4096)
	for range 1 + m.Intn(3) {
		b := make([]byte, 8+m.Intn(16))
		m.Read(b)
		l = append(l, api.Region{At: at, Perm: pick(m, 6, 6, 7, m.Intn(8)), Bytes: b})
		at += uint64(len(b))
	}
	return append(l, api.Region{At: top - 7, Perm: 6, Bytes: make([]byte, 8)})
}

// agree holds one Eval and one Do against the slower reading.
func agree(t *testing.T, m *maker, p *term.Interp) api.Did {
	in, size, c, l := m.insn(), m.Intn(20)-2, m.state(), m.memory()
	memory := memoryOf(l)
	s := &slow{m.d, in, size, roomy(c), cellsOf(l)}
	m.args = m.d.Forms[in.Form].Args
	x := m.term(anyWidth(m), 4)
	want, gone := s.eval(x)
	b, ok := p.Eval(in, size, c, memory, x)
	if ok != (gone == nil) || ok && b != want.bits() || !ok && b != (api.Bits{}) {
		t.Fatalf("%+v of %v: %v, %v, not %v", x, in, b, ok, want)
	}
	cpu, did := s.do()
	n, got, e := p.Do(in, size, c, memory)
	if e != api.OK || got != did || !same(n, cpu) || !same(c, s.c) {
		t.Fatalf("%+v of %v: %v, %v, %v, not %v, %v", m.d.Forms[in.Form].Sem, in, n, got, e, cpu, did)
	}
	holdsCells(t, memory, s.cells)
	return did
}

// holdsCells holds all of a memory against cells.
func holdsCells(t *testing.T, m *mem.Memory, cells map[uint64]cell) {
	t.Helper()
	got := cellsOf(m.Regions())
	for at, c := range cells {
		if got[at] != c {
			t.Fatalf("at %#x: %v, not %v", at, got[at], c)
		}
	}
	if len(got) != len(cells) {
		t.Fatal(len(got), len(cells))
	}
}

func TestMixed(t *testing.T) {
	m := &maker{Rand: rand.New(rand.NewSource(8))}
	met := map[int]int{}
	for range 4000 {
		m.description()
		p, e := term.New(m.d)
		if e != api.OK {
			t.Fatalf("%v: %+v", e, m.d)
		}
		for range 10 {
			met[agree(t, m, p).Kind]++
		}
	}
	for kind := api.DidNext; kind <= api.DidStore; kind++ {
		if met[kind] < 1000 {
			t.Error("too few of a kind", kind, met)
		}
	}
	t.Log(met)
}
