package term_test

import (
	"math"
	"reflect"
	"strings"
	"testing"

	"dovetail/api"
	"dovetail/bvec"
	"dovetail/isacheck"
)

// P8.2

// termOf is a term of toy's form, as layer 4 reads it, of any width or none.
func termOf(text string) api.Term {
	return toy("(jump " + text + ")").Forms[0].Sem[0].Kids[0]
}

// evals holds what a term makes, in the state and over the memory that toy's tests have.
func evals(t *testing.T, text string, want api.Bits) {
	t.Helper()
	b, ok := made(toy("")).Eval(all(), size, state(), memory(), termOf(text))
	if b != want || !ok {
		t.Errorf("%s is %v, %v, not %v", text, b, ok, want)
	}
}

// evalsNone holds that a term makes nothing.
func evalsNone(t *testing.T, text string) {
	t.Helper()
	b, ok := made(toy("")).Eval(all(), size, state(), memory(), termOf(text))
	if b != (api.Bits{}) || ok {
		t.Errorf("%s is %v, %v", text, b, ok)
	}
}

// bits are bits of a number of 64 bits at most.
func bits(w int, lo uint64) api.Bits { return api.Bits{W: w, Lo: lo} }

// below0 is a number below 0 of 64 bits.
func below0(n int) uint64 { return uint64(n) }

func TestOperations(t *testing.T) {
	for _, c := range []struct {
		text string
		want api.Bits
	}{
		{"(add (c 8 200) (c 8 100))", bits(8, 44)},
		{"(add (x d) (x a))", bits(64, 136)},
		{"(sub (c 8 1) (c 8 2))", bits(8, 255)},
		{"(sub (c 128 0) (c 128 1))", api.Bits{W: 128, Hi: top, Lo: top}},
		{"(mul (c 8 20) (c 8 20))", bits(8, 144)},
		{"(and (c 8 12) (c 8 10))", bits(8, 8)},
		{"(or (c 8 12) (c 8 10))", bits(8, 14)},
		{"(xor (c 8 12) (c 8 10))", bits(8, 6)},
		{"(shl (c 8 129) (c 3 1))", bits(8, 2)},
		{"(shr (c 8 129) (c 64 1))", bits(8, 64)},
		{"(sar (c 8 129) (c 8 1))", bits(8, 192)},
		{"(sar (c 8 129) (c 8 200))", bits(8, 255)},
		{"(divu (c 8 -7) (c 8 2))", bits(8, 124)},
		{"(remu (c 8 -7) (c 8 2))", bits(8, 1)},
		{"(divs (c 8 -7) (c 8 2))", bits(8, 253)},
		{"(rems (c 8 -7) (c 8 2))", bits(8, 255)},
		{"(divu (c 8 5) (c 8 0))", bits(8, 255)},
		{"(rems (c 8 5) (c 8 0))", bits(8, 5)},
		{"(divs (c 8 -128) (c 8 -1))", bits(8, 128)},
		{"(eq (c 8 5) (c 8 5))", bits(1, 1)},
		{"(eq (c 8 5) (c 8 6))", bits(1, 0)},
		{"(ltu (c 8 -1) (c 8 0))", bits(1, 0)},
		{"(ltu (c 8 0) (c 8 -1))", bits(1, 1)},
		{"(lts (c 8 -1) (c 8 0))", bits(1, 1)},
		{"(lts (c 8 0) (c 8 -1))", bits(1, 0)},
		{"(cat (c 8 1) (c 4 2))", bits(12, 18)},
		{"(cat (c 64 3) (c 64 4))", api.Bits{W: 128, Hi: 3, Lo: 4}},
		{"(not (c 8 12))", bits(8, 243)},
		{"(neg (c 8 12))", bits(8, 244)},
		{"(sx 64 (c 8 -2))", bits(64, top-1)},
		{"(sx 128 (c 8 -2))", api.Bits{W: 128, Hi: top, Lo: top - 1}},
		{"(sx 4 (c 8 53))", bits(4, 5)},
		{"(zx 64 (c 8 -2))", bits(64, 254)},
		{"(zx 4 (c 8 53))", bits(4, 5)},
		{"(zx 128 (x 3))", api.Bits{W: 128, Lo: 1<<63 + 1}},
		{"(ex 7 4 (c 8 53))", bits(4, 3)},
		{"(ex 0 0 (c 8 53))", bits(1, 1)},
		{"(ex 127 64 (cat (c 64 3) (c 64 4)))", bits(64, 3)},
		{"(ex 127 64 (mul (sx 128 (c 64 -2)) (sx 128 (c 64 3))))", bits(64, top)},
		{"(ex 127 64 (mul (zx 128 (c 64 -2)) (zx 128 (c 64 3))))", bits(64, 2)},
		// The first part is the left one, whatever the parts are.
		{"(sub (sub (c 8 10) (c 8 3)) (sub (c 8 9) (c 8 7)))", bits(8, 5)},
		{"(cat (imm i 4) (flag n))", bits(5, 26)},
	} {
		evals(t, c.text, c.want)
	}
}

// TestOperationsOfAll: each operation on two is layer 1's, at numbers of all kinds.
func TestOperationsOfAll(t *testing.T) {
	numbers := []int{0, 1, 2, 3, 7, 8, 63, 64, 65, 127, 128, 1 << 31, -1, -2, -7, -128, math.MaxInt, math.MinInt}
	p, c, m := made(toy("")), state(), memory()
	for op := api.OpAdd; op <= api.OpCat; op++ {
		for _, w := range []int{1, 2, 8, 63, 64} {
			for _, a := range numbers {
				for _, b := range numbers {
					kids := []api.Term{{Op: api.OpConst, W: w, A: a}, {Op: api.OpConst, W: w, A: b}}
					got, ok := p.Eval(all(), size, c, m, api.Term{Op: op, Kids: kids})
					if want := bvec.Bin(op, bvec.FromInt(w, a), bvec.FromInt(w, b)); got != want || !ok {
						t.Fatal(op, w, a, b, got, ok, want)
					}
				}
			}
		}
	}
}

func TestConst(t *testing.T) {
	for _, n := range []int{0, 1, 255, 256, -1, -256, math.MaxInt, math.MinInt} {
		for _, w := range []int{1, 7, 8, 9, 63, 64, 65, 127, 128} {
			b, ok := made(toy("")).Eval(all(), size, state(), memory(), api.Term{Op: api.OpConst, W: w, A: n})
			if b != bvec.FromInt(w, n) || !ok {
				t.Error(w, n, b, ok)
			}
		}
	}
	evals(t, "(c 128 -1)", api.Bits{W: 128, Hi: top, Lo: top})
}

// TestRegisters: a register is an operand's value, or one that is told; a file's Zero is 0, whatever stands in it.
func TestRegisters(t *testing.T) {
	evals(t, "(x d)", bits(64, 64))
	evals(t, "(x a)", bits(64, 72))
	evals(t, "(x 1)", bits(64, 64))
	evals(t, "(x 3)", bits(64, 1<<63+1))
	evals(t, "(x 0)", bits(64, 0))
	evals(t, "(y e)", bits(8, 0xA9))
	evals(t, "(y 0)", bits(8, 0xA0))
	evals(t, "(y 15)", bits(8, 0xAF))
	evals(t, "(v 0)", bits(1, 1))
	evals(t, "(v 1)", bits(1, 0))
	evals(t, "(v 2)", bits(1, 0))
	evals(t, "(w 0)", bits(33, 1<<33-1))
	evals(t, "(w 1)", bits(33, 9))
	evalsNone(t, "(x 4)")
	evalsNone(t, "(v 3)")
	evalsNone(t, "(y d)")
	evalsNone(t, "(x i)")
	p := made(toy(""))
	for d := range 4 {
		in := all()
		in.Vals[0] = d
		want := state().Files[fileX][d]
		if d == 0 {
			want = 0
		}
		if b, ok := p.Eval(in, size, state(), memory(), termOf("(x d)")); b != bits(64, want) || !ok {
			t.Error("d", d, b, ok)
		}
	}
	// A register that its class hasn't is one all the same, if its file has it.
	for e := range 16 {
		in := all()
		in.Vals[2] = e
		if b, ok := p.Eval(in, size, state(), memory(), termOf("(y e)")); b != bits(8, uint64(0xA0+e)) || !ok {
			t.Error("e", e, b, ok)
		}
	}
}

// TestOperands: a number as an operand has any value, whatever its class has.
func TestOperands(t *testing.T) {
	evals(t, "(imm i 64)", bits(64, below0(-3)))
	evals(t, "(imm i 8)", bits(8, 253))
	evals(t, "(imm i 1)", bits(1, 1))
	evals(t, "(imm i 128)", api.Bits{W: 128, Hi: top, Lo: below0(-3)})
	evals(t, "(imm j 3)", bits(3, 0))
	evals(t, "(imm j 64)", bits(64, 8))
	evals(t, "(imm t 64)", bits(64, below0(-2)))
	evalsNone(t, "(imm d 64)")
	evalsNone(t, "(imm i 129)")
	for _, n := range []int{0, 7, 127, 128, -128, -129, 1 << 40, math.MaxInt, math.MinInt} {
		for operand, text := range []string{"(imm i 64)", "(imm j 64)", "(imm t 64)"} {
			in := all()
			in.Vals[3+operand] = n
			if b, ok := made(toy("")).Eval(in, size, state(), memory(), termOf(text)); b != bits(64, uint64(n)) || !ok {
				t.Error(text, n, b, ok)
			}
		}
	}
}

func TestPcAndNext(t *testing.T) {
	evals(t, "pc", bits(64, 1000))
	evals(t, "next", bits(64, 1006))
	p := made(toy(""))
	for _, pc := range []uint64{0, 1, 1 << 63, top - 1, top} {
		for _, n := range []int{0, 1, 2, 15, -1, math.MaxInt, math.MinInt} {
			c := state()
			c.Pc = pc
			if b, ok := p.Eval(all(), n, c, memory(), termOf("next")); b != bits(64, pc+uint64(n)) || !ok {
				t.Error("next", pc, n, b, ok)
			}
			if b, ok := p.Eval(all(), n, c, memory(), termOf("pc")); b != bits(64, pc) || !ok {
				t.Error("pc", pc, n, b, ok)
			}
		}
	}
}

func TestFlags(t *testing.T) {
	evals(t, "(flag z)", bits(1, 1))
	evals(t, "(flag n)", bits(1, 0))
	evals(t, "(not (flag n))", bits(1, 1))
	for _, n := range []int{-1, 2, math.MaxInt, math.MinInt} {
		if b, ok := made(toy("")).Eval(all(), size, state(), memory(), api.Term{Op: api.OpFlag, A: n}); b != (api.Bits{}) || ok {
			t.Error(n, b, ok)
		}
	}
}

func TestLoads(t *testing.T) {
	evals(t, "(ld 8 (x d))", bits(8, 1))
	evals(t, "(ld 16 (x d))", bits(16, 0x0201))
	evals(t, "(ld 32 (x d))", bits(32, 0x04030201))
	evals(t, "(ld 64 (x d))", bits(64, 0x0807060504030201))
	evals(t, "(ld 8 (c 64 71))", bits(8, 8))
	evals(t, "(ld 64 (c 64 68))", bits(64, 0xFCFBFAF908070605))
	evals(t, "(ld 32 (c 64 -4))", bits(32, 0x84838281))
	evals(t, "(ld 8 (c 64 -1))", bits(8, 0x84))
	evals(t, "(ld 8 (add (x a) (imm i 64)))", bits(8, 6))
	evals(t, "(ld 8 (add (c 64 63) (zx 64 (ld 8 (x d)))))", bits(8, 1))
}

// TestLoadsThatArentThere: a byte that is nowhere, or can't be read, or would lie beyond the last address.
func TestLoadsThatArentThere(t *testing.T) {
	evalsNone(t, "(ld 8 (c 64 63))")
	evalsNone(t, "(ld 8 (c 64 0))")
	evalsNone(t, "(ld 16 (c 64 63))")
	evalsNone(t, "(ld 64 (c 64 69))")
	evalsNone(t, "(ld 16 (c 64 75))")
	evalsNone(t, "(ld 8 (c 64 76))")
	evalsNone(t, "(ld 8 (c 64 80))")
	evalsNone(t, "(ld 64 (c 64 -4))")
	evalsNone(t, "(ld 16 (c 64 -1))")
	// The whole term makes nothing, wherever in it the load stands.
	for _, text := range []string{
		"(add GONE (x d))", "(add (x d) GONE)", "(not GONE)", "(eq GONE GONE)", "(cat (c 1 0) GONE)", "(sx 128 GONE)", "(ex 3 0 GONE)", "(ld 8 GONE)",
		"(if (eq GONE (x d)) (x d) (x d))", "(if (flag z) GONE (x d))", "(if (flag n) (x d) GONE)", "(shl (x d) GONE)", "(mul (c 64 0) GONE)", "(and (c 64 0) GONE)",
	} {
		evalsNone(t, strings.ReplaceAll(text, "GONE", "(ld 64 (c 64 80))"))
		if isacheck.Width(toy(""), 0, termOf(strings.ReplaceAll(text, "GONE", "(ld 64 (c 64 80))"))) == 0 {
			t.Error("has no width", text)
		}
	}
}

// TestIf: the other part isn't reckoned.
func TestIf(t *testing.T) {
	evals(t, "(if (flag z) (c 8 1) (c 8 2))", bits(8, 1))
	evals(t, "(if (flag n) (c 8 1) (c 8 2))", bits(8, 2))
	evals(t, "(if (flag z) (c 8 1) (ld 8 (c 64 0)))", bits(8, 1))
	evals(t, "(if (flag n) (ld 8 (c 64 0)) (c 8 2))", bits(8, 2))
	evals(t, "(if (flag n) (ld 8 (c 64 0)) (if (flag z) (c 8 3) (ld 8 (c 64 0))))", bits(8, 3))
	evals(t, "(if (c 1 -1) (c 8 1) (c 8 2))", bits(8, 1))
	evals(t, "(if (lts (x 3) (x 0)) (c 8 1) (c 8 2))", bits(8, 1))
	evalsNone(t, "(if (flag z) (ld 8 (c 64 0)) (c 8 2))")
	evalsNone(t, "(if (flag n) (c 8 1) (ld 8 (c 64 0)))")
	evalsNone(t, "(if (ex 0 0 (ld 8 (c 64 0))) (c 8 1) (c 8 2))")
}

// notUsable are instructions that toy has not.
func notUsable() []api.Insn {
	l := []api.Insn{{Form: 1, Vals: vals()}, {Form: -1, Vals: vals()}, {Form: math.MaxInt, Vals: vals()}, {Form: math.MinInt, Vals: vals()}}
	l = append(l, api.Insn{}, api.Insn{Vals: vals()[:5]}, api.Insn{Vals: append(vals(), 0)}, api.Insn{Vals: make([]int, 100)})
	for operand, count := range []int{4, 4, 16} {
		for _, n := range []int{-1, -2, count, count + 1, 64, 1 << 32, math.MaxInt, math.MinInt} {
			in := all()
			in.Vals[operand] = n
			l = append(l, in)
		}
	}
	return l
}

// notSound are states that toy has not.
func notSound() []api.Cpu {
	var l []api.Cpu
	for _, change := range []func(c *api.Cpu){
		func(c *api.Cpu) { *c = api.Cpu{} },
		func(c *api.Cpu) { c.Files = nil },
		func(c *api.Cpu) { c.Files = c.Files[:3] },
		func(c *api.Cpu) { c.Files = append(c.Files, nil) },
		func(c *api.Cpu) { c.Files = append(c.Files, []uint64{0}) },
		func(c *api.Cpu) { c.Files[fileX] = nil },
		func(c *api.Cpu) { c.Files[fileX] = c.Files[fileX][:3] },
		func(c *api.Cpu) { c.Files[fileW] = append(c.Files[fileW], 0) },
		func(c *api.Cpu) { c.Files[fileX], c.Files[fileY] = c.Files[fileY], c.Files[fileX] },
		func(c *api.Cpu) { c.Files[fileY][0] = 256 },
		func(c *api.Cpu) { c.Files[fileY][15] = 1 << 63 },
		func(c *api.Cpu) { c.Files[fileV][0] = 2 },
		func(c *api.Cpu) { c.Files[fileV][2] = 3 },
		func(c *api.Cpu) { c.Files[fileW][1] = 1 << 33 },
		func(c *api.Cpu) { c.Files[fileW][0] = top },
		func(c *api.Cpu) { c.Flags = nil },
		func(c *api.Cpu) { c.Flags = c.Flags[:1] },
		func(c *api.Cpu) { c.Flags = append(c.Flags, false) },
	} {
		c := state()
		change(&c)
		l = append(l, c)
	}
	return l
}

// noWidth are terms that layer 5 finds not right in toy's form.
func noWidth() []api.Term {
	l := []api.Term{{}, {Op: -1}, {Op: api.OpSym}, {Op: math.MaxInt}, {Op: math.MinInt}, {Op: api.OpSet, B: -1, Kids: []api.Term{{Op: api.OpPc}}}, {Op: api.OpSys}, {Op: api.OpTrap, A: 1}, {Op: api.OpJump, Kids: []api.Term{{Op: api.OpPc}}}}
	for _, text := range []string{
		"(c 0 1)", "(c 129 1)", "(x 4)", "(y d)", "(imm d 64)", "(imm i 0)", "(add (c 8 1) (c 9 1))", "(eq (c 8 1) (c 9 1))", "(cat (c 128 0) (flag z))",
		"(ld 24 pc)", "(ld 128 pc)", "(ld 8 (c 32 64))", "(if (c 2 1) pc pc)", "(if (flag z) pc (c 8 1))", "(sx 0 pc)", "(zx 129 pc)", "(ex 64 0 pc)", "(ex 3 4 pc)", "(not (c 0 1))",
	} {
		l = append(l, termOf(text))
	}
	for op := -1; op < 50; op++ {
		for n := range 5 {
			kids := make([]api.Term, n)
			for k := range kids {
				kids[k] = api.Term{Op: api.OpPc}
			}
			for _, b := range []int{math.MinInt, -6, 6, math.MaxInt} {
				t := api.Term{Op: op, A: 9, B: b, Kids: kids}
				if isacheck.Width(toy(""), 0, t) == 0 {
					l = append(l, t)
				}
			}
		}
	}
	return l
}

func TestEvalNotUsable(t *testing.T) {
	p := made(toy(""))
	for _, in := range notUsable() {
		for _, text := range []string{"(c 8 1)", "pc", "(x d)", "(imm i 64)"} {
			if b, ok := p.Eval(in, size, state(), memory(), termOf(text)); b != (api.Bits{}) || ok {
				t.Error(in, text, b, ok)
			}
		}
	}
}

func TestEvalNotSound(t *testing.T) {
	p := made(toy(""))
	for _, c := range notSound() {
		for _, text := range []string{"(c 8 1)", "pc", "(x 1)", "(flag z)"} {
			if b, ok := p.Eval(all(), size, c, memory(), termOf(text)); b != (api.Bits{}) || ok {
				t.Error(c, text, b, ok)
			}
		}
	}
}

func TestEvalNoWidth(t *testing.T) {
	p := made(toy(""))
	for _, x := range noWidth() {
		if b, ok := p.Eval(all(), size, state(), memory(), x); b != (api.Bits{}) || ok {
			t.Error(x, b, ok)
		}
		// Nor has a term such a part, in a part of OpIf that isn't reckoned.
		cond := api.Term{Op: api.OpIf, Kids: []api.Term{{Op: api.OpFlag}, {Op: api.OpPc}, x}}
		if b, ok := p.Eval(all(), size, state(), memory(), cond); b != (api.Bits{}) || ok {
			t.Error("in a part", x, b, ok)
		}
	}
}

// TestEvalOfItsForm: the operands of a term are those of the instruction's form.
func TestEvalOfItsForm(t *testing.T) {
	p := made(read(parts + `(form one "one i, d" ((i s) (d r)) (.000000 d i) ()) (form two "two d" ((d r)) (.100000 d) ()) (form none "none" () (.11000000) ())`))
	d, i := api.Term{Op: api.OpReg, B: 0}, api.Term{Op: api.OpArg, W: 8, A: 0}
	for _, c := range []struct {
		in   api.Insn
		t    api.Term
		want api.Bits
	}{
		{api.Insn{Form: 0, Vals: []int{5, 1}}, i, bits(8, 5)}, {api.Insn{Form: 0, Vals: []int{5, 1}}, d, api.Bits{}},
		{api.Insn{Form: 1, Vals: []int{3}}, d, bits(64, 1<<63+1)}, {api.Insn{Form: 1, Vals: []int{3}}, i, api.Bits{}},
		{api.Insn{Form: 2}, d, api.Bits{}}, {api.Insn{Form: 2}, i, api.Bits{}}, {api.Insn{Form: 2}, api.Term{Op: api.OpReg, B: -2}, bits(64, 64)},
	} {
		if b, ok := p.Eval(c.in, 1, state(), memory(), c.t); b != c.want || ok != (c.want.W > 0) {
			t.Error(c.in, c.t, b, ok)
		}
	}
}

// TestEvalChangesNothing: neither what is handed in, spare room included, nor the memory.
func TestEvalChangesNothing(t *testing.T) {
	p, m := made(toy("")), memory()
	for _, text := range []string{"(add (x d) (imm i 64))", "(ld 64 (x d))", "(ld 8 (c 64 0))", "(if (flag z) (y e) (c 8 1))"} {
		in, c, x := roomy(all()), roomy(state()), roomy(termOf(text))
		inBefore, cBefore, xBefore := roomy(in), roomy(c), roomy(x)
		p.Eval(in, size, c, m, x)
		if !sameRoom(in, inBefore) || !sameRoom(c, cBefore) || !sameRoom(x, xBefore) || !sameRegions(m.Regions(), regions()) {
			t.Error(text)
		}
	}
}

// TestEvalDeep: terms may be nested deep, and wide.
func TestEvalDeep(t *testing.T) {
	p := made(toy(""))
	x, bushy := termOf("(c 64 5)"), termOf("(c 64 1)")
	for range 60000 {
		x = api.Term{Op: api.OpNot, Kids: []api.Term{x}}
	}
	for range 16 {
		bushy = api.Term{Op: api.OpAdd, Kids: []api.Term{bushy, bushy}}
	}
	if b, ok := p.Eval(all(), size, state(), memory(), x); b != bits(64, 5) || !ok {
		t.Error("deep", b, ok)
	}
	if b, ok := p.Eval(all(), size, state(), memory(), bushy); b != bits(64, 1<<16) || !ok {
		t.Error("wide", b, ok)
	}
}

// TestEvalAnyArguments: no call panics, and each answers the same when asked again.
func TestEvalAnyArguments(t *testing.T) {
	asked := func() []any {
		var out []any
		p, m := made(toy("")), memory()
		insns := append(notUsable(), all())
		states := append(notSound(), state())
		for _, x := range append(noWidth(), termOf("(ld 64 (x d))"), termOf("(imm i 128)"), termOf("(ld 8 (c 64 0))")) {
			for n, in := range insns {
				b, ok := p.Eval(in, n, states[n%len(states)], m, x)
				out = append(out, b, ok)
			}
			b, ok := p.Eval(all(), math.MinInt, state(), m, x)
			out = append(out, b, ok)
		}
		return out
	}
	if !reflect.DeepEqual(asked(), asked()) {
		t.Error("other answers when asked again")
	}
}
