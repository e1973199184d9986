package step_test

import (
	"slices"
	"testing"

	"dovetail/api"
	"dovetail/codec"
	"dovetail/step"
)

// Parts of the shipped descriptions (layer 10), and what some programs do on these machines.

const rvText = `(isa rv64 word) (file x 32 64 zero 0) (class r reg x 5) (class rn reg x 5 except 0) (class i12 sgn 12) (class s12 sgn 12) (class u20 uns 20) (class ci sgn 6) (class b13 pc 12 shift 1)
(form lui "lui d, i" ((d r) (i u20)) (i d .0110111) ((set (x d) (sx 64 (shl (imm i 32) (c 32 12))))))
(form bne "bne a, b, t" ((a r) (b r) (t b13)) (t[11] t[9:4] b a .001 t[3:0] t[10] .1100011) ((when (not (eq (x a) (x b))) (jump (add pc (imm t 64))))))
(form lb "lb d, i(a)" ((d r) (i i12) (a r)) (i a .000 d .0000011) ((set (x d) (sx 64 (ld 8 (add (x a) (imm i 64)))))))
(form ld "ld d, i(a)" ((d r) (i i12) (a r)) (i a .011 d .0000011) ((set (x d) (ld 64 (add (x a) (imm i 64))))))
(form sb "sb b, i(a)" ((b r) (i s12) (a r)) (i[11:5] b a .000 i[4:0] .0100011) ((st 8 (add (x a) (imm i 64)) (ex 7 0 (x b)))))
(form addi "addi d, a, i" ((d r) (a r) (i i12)) (i a .000 d .0010011) ((set (x d) (add (x a) (imm i 64)))))
(form ecall "ecall" () (.00000000000000000000000001110011) ((sys)))
(form ebreak "ebreak" () (.00000000000100000000000001110011) ((trap 1)))
(form c.li "addi d, zero, i" ((d rn) (i ci)) (.010 i[5] d i[4:0] .01) ((set (x d) (imm i 64))))
(num write 64) (num exit 93) (reg sysno x 17) (reg ret x 10) (reg arg0 x 10) (reg arg1 x 11) (reg arg2 x 12) (reg sp x 2) (reg tp x 4)`

const a64Text = `(isa a64 word) (file x 32 64 zero 31) (file p 1 64) (file t 1 64) (flag n) (flag z) (flag c) (flag v)
(class r reg x 5) (class q reg x 5 except 31) (class u12 uns 12) (class d12 uns 12 shift 3) (class u16 uns 16) (class hw uns 2 shift 4) (class b19 pc 19 shift 2)
(form movz "movz d, i, lsl s" ((d r) (i u16) (s hw)) (.110100101 s i d) ((set (x d) (shl (imm i 64) (imm s 64)))))
(form addi "add d, a, i" ((d q) (a q) (i u12)) (.1001000100 i a d) ((set (x d) (add (x a) (imm i 64)))))
(form subs "subs d, a, b" ((d r) (a r) (b r)) (.11101011000 b .000000 a d) ((set (x d) (sub (x a) (x b))) (set (flag n) (ex 63 63 (sub (x a) (x b)))) (set (flag z) (eq (x a) (x b))) (set (flag c) (not (ltu (x a) (x b)))) (set (flag v) (ex 63 63 (and (xor (x a) (x b)) (xor (x a) (sub (x a) (x b))))))))
(form str.s "str s, [sp, i]" ((s r) (i d12)) (.1111100100 i .11111 s) ((st 64 (add (p 0) (imm i 64)) (x s))))
(form b.ne "b.ne t" ((t b19)) (.01010100 t .00001) ((when (not (flag z)) (jump (add pc (imm t 64))))))
(form svc "svc i" ((i u16)) (.11010100000 i .00001) ((sys)))
(form brk "brk i" ((i u16)) (.11010100001 i .00000) ((trap 1)))
(num write 64) (num exit 93) (reg sysno x 8) (reg ret x 0) (reg arg0 x 0) (reg arg1 x 1) (reg arg2 x 2) (reg sp p 0) (reg tp t 0)`

const x64Text = `(isa x64 bytes) (file r 16 64) (file fs 1 64) (flag z) (flag s) (flag c) (flag o) (class g reg r 4) (class m reg r 4 except 4 12) (class i8 sgn 8) (class i32 sgn 32) (class s8 nx 8)
(form movi "mov d, i" ((d g) (i i32)) (.0100100 d[3] .11000111 .11000 d[2:0] i[7:0] i[15:8] i[23:16] i[31:24]) ((set (r d) (imm i 64))))
(form subi8 "sub d, i" ((d g) (i i8)) (.0100100 d[3] .10000011 .11101 d[2:0] i) ((set (r d) (sub (r d) (imm i 64))) (set (flag z) (eq (r d) (imm i 64))) (set (flag s) (ex 63 63 (sub (r d) (imm i 64)))) (set (flag c) (ltu (r d) (imm i 64))) (set (flag o) (ex 63 63 (and (xor (r d) (imm i 64)) (xor (r d) (sub (r d) (imm i 64))))))))
(form push "push s" ((s g)) (.0100000 s[3] .01010 s[2:0]) ((st 64 (sub (r 4) (c 64 8)) (r s)) (set (r 4) (sub (r 4) (c 64 8)))))
(form pop "pop d" ((d m)) (.0100000 d[3] .01011 d[2:0]) ((set (r d) (ld 64 (r 4))) (set (r 4) (add (r 4) (c 64 8)))))
(form jne8 "jne t" ((t s8)) (.01110101 t) ((when (not (flag z)) (jump (add next (imm t 64))))))
(form syscall "syscall" () (.0000111100000101) ((sys)))
(form hlt "hlt" () (.11110100) ((trap 3)))
(num write 1) (num exit 60) (reg sysno r 0) (reg ret r 0) (reg arg0 r 7) (reg arg1 r 6) (reg arg2 r 2) (reg sp r 4) (reg tp fs 0)`

// insn is an instruction: its form's name, and its values.
type insn struct {
	name string
	vals []int
}

func in(name string, vals ...int) insn { return insn{name, vals} }

// encoded is instructions as bytes.
func encoded(d api.Desc, l ...insn) []byte {
	c, e := codec.New(d)
	if e != api.OK {
		panic(e.Error())
	}
	var out []byte
	for _, i := range l {
		form := slices.IndexFunc(d.Forms, func(f api.Form) bool { return f.Name == i.name })
		b, e := c.Encode(api.Insn{Form: form, Vals: i.vals})
		if e != api.OK {
			panic(i.name + ": " + e.Error())
		}
		out = append(out, b...)
	}
	return out
}

// The addresses of the programs' code, data and stack.
const (
	codeAt = 0x10000
	dataAt = 0x11000
	stack  = 0x20000
)

// loaded is a machine of a text's description with a program, data and a stack of 32 bytes.
func loaded(text string, l ...insn) *step.Machine {
	d := read(text)
	c := api.Cpu{Pc: codeAt, Flags: make([]bool, len(d.Flags))}
	for _, f := range d.Files {
		c.Files = append(c.Files, make([]uint64, f.Count))
	}
	sp := d.Regs[5]
	c.Files[sp.File][sp.Num] = stack + 32
	return made(d, c, []api.Region{
		{At: codeAt, Perm: x, Bytes: encoded(d, l...)},
		region(dataAt, w|r, "hi, there\n"),
		{At: stack, Perm: w | r, Bytes: make([]byte, 32)},
	})
}

// greeting is the trace of the programs that write hi twice, and exit with 5.
func greeting(steps int) api.Trace {
	return api.Trace{Events: []api.Event{event(1, "hi"), event(1, "hi")}, Kind: api.EndExit, Code: 5, Steps: steps}
}

func TestRv64(t *testing.T) {
	hi := []insn{in("c.li", 9, 2), in("addi", 17, 0, 64), in("c.li", 10, 1), in("lui", 11, dataAt>>12), in("c.li", 12, 2), in("ecall"), in("addi", 9, 9, -1), in("bne", 9, 0, -20)}
	m := loaded(rvText, slices.Concat(hi, []insn{in("addi", 10, 10, 3), in("addi", 17, 0, 93), in("ecall")})...)
	runs(t, "rv64", m, 1000, greeting(1+2*7+3))
	if c := m.Cpu(); c.Files[0][10] != 5 || c.Pc != codeAt+38 {
		t.Error(c)
	}
	m = loaded(rvText, in("lui", 5, codeAt>>12), in("addi", 6, 5, 4), in("sb", 0, 3, 6))
	runs(t, "a store into the code", m, 9, api.Trace{Kind: 4, At: codeAt + 7, Steps: 3})
	m = loaded(rvText, in("lui", 5, codeAt>>12), in("ld", 6, 0, 5))
	runs(t, "a load from the code", m, 9, api.Trace{Kind: 3, At: codeAt, Steps: 2})
	m = loaded(rvText, in("lui", 5, dataAt>>12), in("lb", 6, 9, 5), in("lb", 6, 10, 5))
	runs(t, "a load behind the data", m, 9, api.Trace{Kind: 3, At: dataAt + 10, Steps: 3})
	runs(t, "ebreak", loaded(rvText, in("ebreak")), 9, api.Trace{Kind: 1, Code: 1, Steps: 1})
	runs(t, "no call", loaded(rvText, in("ecall"), in("ebreak")), 9, api.Trace{Kind: 1, Code: 1, Steps: 2})
}

func TestA64(t *testing.T) {
	hi := []insn{in("movz", 9, 2, 0), in("movz", 10, 1, 0),
		in("movz", 8, 64, 0), in("movz", 0, 1, 0), in("movz", 1, 1, 16), in("addi", 1, 1, 2048), in("addi", 1, 1, 2048), in("movz", 2, 2, 0), in("svc", 0), in("subs", 9, 9, 10), in("b.ne", -4*8)}
	m := loaded(a64Text, slices.Concat(hi, []insn{in("addi", 0, 0, 3), in("movz", 8, 93, 0), in("svc", 7)})...)
	runs(t, "a64", m, 1000, greeting(2+2*9+3))
	if c := m.Cpu(); c.Files[0][0] != 5 || !c.Flags[1] {
		t.Error(c)
	}
	m = loaded(a64Text, in("str.s", 31, 0), in("str.s", 31, 8))
	runs(t, "a store behind the stack", m, 9, api.Trace{Kind: 4, At: stack + 32, Steps: 1})
	runs(t, "brk", loaded(a64Text, in("brk", 3)), 9, api.Trace{Kind: 1, Code: 1, Steps: 1})
}

func TestX64(t *testing.T) {
	hi := []insn{in("movi", 3, 2), in("movi", 0, 1), in("movi", 7, 1), in("movi", 6, dataAt), in("movi", 2, 2), in("syscall"), in("subi8", 3, 1), in("jne8", -(4*7 + 2 + 4 + 2))}
	m := loaded(x64Text, slices.Concat(hi, []insn{in("push", 0), in("pop", 7), in("subi8", 7, -3), in("movi", 0, 60), in("syscall")})...)
	runs(t, "x64", m, 1000, greeting(1+2*7+5))
	if c := m.Cpu(); c.Files[0][7] != 5 || c.Files[0][4] != stack+32 {
		t.Error(c)
	}
	m = loaded(x64Text, in("push", 3), in("push", 3), in("push", 3), in("push", 3), in("push", 3))
	runs(t, "a store ahead of the stack", m, 9, api.Trace{Kind: 4, At: stack - 8, Steps: 5})
	runs(t, "hlt", loaded(x64Text, in("hlt")), 9, api.Trace{Kind: 1, Code: 3, Steps: 1})
	runs(t, "behind the code", loaded(x64Text, in("jne8", 5)), 9, api.Trace{Kind: 5, At: codeAt + 7, Steps: 2})
	runs(t, "within an instruction", loaded(x64Text, in("movi", 0, -1), in("jne8", -4)), 9, api.Trace{Kind: 6, At: codeAt + 5, Steps: 3})
}
