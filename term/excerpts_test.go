package term_test

import (
	"slices"
	"testing"

	"dovetail/api"
	"dovetail/mem"
	"dovetail/term"
)

// Parts of the shipped descriptions (layer 10), and what some instructions do on these machines.

const rvText = `(isa rv64 word) (file x 32 64 zero 0) (class r reg x 5) (class rn reg x 5 except 0) (class i12 sgn 12) (class s12 sgn 12) (class u20 uns 20) (class u6 uns 6) (class b13 pc 12 shift 1) (class j21 pc 20 shift 1)
(form lui "lui d, i" ((d r) (i u20)) (i d .0110111) ((set (x d) (sx 64 (shl (imm i 32) (c 32 12))))))
(form auipc "auipc d, i" ((d r) (i u20)) (i d .0010111) ((set (x d) (add pc (sx 64 (shl (imm i 32) (c 32 12)))))))
(form jal "jal d, t" ((d r) (t j21)) (t[19] t[9:0] t[10] t[18:11] d .1101111) ((set (x d) next) (jump (add pc (imm t 64)))))
(form jalr "jalr d, i(a)" ((d r) (i i12) (a r)) (i a .000 d .1100111) ((set (x d) next) (jump (and (add (x a) (imm i 64)) (c 64 -2)))))
(form blt "blt a, b, t" ((a r) (b r) (t b13)) (t[11] t[9:4] b a .100 t[3:0] t[10] .1100011) ((when (lts (x a) (x b)) (jump (add pc (imm t 64))))))
(form bltu "bltu a, b, t" ((a r) (b r) (t b13)) (t[11] t[9:4] b a .110 t[3:0] t[10] .1100011) ((when (ltu (x a) (x b)) (jump (add pc (imm t 64))))))
(form lb "lb d, i(a)" ((d r) (i i12) (a r)) (i a .000 d .0000011) ((set (x d) (sx 64 (ld 8 (add (x a) (imm i 64)))))))
(form lhu "lhu d, i(a)" ((d r) (i i12) (a r)) (i a .101 d .0000011) ((set (x d) (zx 64 (ld 16 (add (x a) (imm i 64)))))))
(form lw "lw d, i(a)" ((d r) (i i12) (a r)) (i a .010 d .0000011) ((set (x d) (sx 64 (ld 32 (add (x a) (imm i 64)))))))
(form ld "ld d, i(a)" ((d r) (i i12) (a r)) (i a .011 d .0000011) ((set (x d) (ld 64 (add (x a) (imm i 64))))))
(form sb "sb b, i(a)" ((b r) (i s12) (a r)) (i[11:5] b a .000 i[4:0] .0100011) ((st 8 (add (x a) (imm i 64)) (ex 7 0 (x b)))))
(form sw "sw b, i(a)" ((b r) (i s12) (a r)) (i[11:5] b a .010 i[4:0] .0100011) ((st 32 (add (x a) (imm i 64)) (ex 31 0 (x b)))))
(form sd "sd b, i(a)" ((b r) (i s12) (a r)) (i[11:5] b a .011 i[4:0] .0100011) ((st 64 (add (x a) (imm i 64)) (x b))))
(form addi "addi d, a, i" ((d r) (a r) (i i12)) (i a .000 d .0010011) ((set (x d) (add (x a) (imm i 64)))))
(form sltiu "sltiu d, a, i" ((d r) (a r) (i i12)) (i a .011 d .0010011) ((set (x d) (zx 64 (ltu (x a) (imm i 64))))))
(form srai "srai d, a, i" ((d r) (a r) (i u6)) (.010000 i a .101 d .0010011) ((set (x d) (sar (x a) (imm i 64)))))
(form sll "sll d, a, b" ((d r) (a r) (b r)) (.0000000 b a .001 d .0110011) ((set (x d) (shl (x a) (ex 5 0 (x b))))))
(form addw "addw d, a, b" ((d r) (a r) (b r)) (.0000000 b a .000 d .0111011) ((set (x d) (sx 64 (add (ex 31 0 (x a)) (ex 31 0 (x b)))))))
(form divw "divw d, a, b" ((d r) (a r) (b r)) (.0000001 b a .100 d .0111011) ((set (x d) (sx 64 (divs (ex 31 0 (x a)) (ex 31 0 (x b)))))))
(form div "div d, a, b" ((d r) (a r) (b r)) (.0000001 b a .100 d .0110011) ((set (x d) (divs (x a) (x b)))))
(form rem "rem d, a, b" ((d r) (a r) (b r)) (.0000001 b a .110 d .0110011) ((set (x d) (rems (x a) (x b)))))
(form mulh "mulh d, a, b" ((d r) (a r) (b r)) (.0000001 b a .001 d .0110011) ((set (x d) (ex 127 64 (mul (sx 128 (x a)) (sx 128 (x b)))))))
(form mulhu "mulhu d, a, b" ((d r) (a r) (b r)) (.0000001 b a .011 d .0110011) ((set (x d) (ex 127 64 (mul (zx 128 (x a)) (zx 128 (x b)))))))
(form ecall "ecall" () (.00000000000000000000000001110011) ((sys)))
(form ebreak "ebreak" () (.00000000000100000000000001110011) ((trap 1)))
(form fence "fence" () (.xxxxxxxxxxxxxxxxx .000 .xxxxx .0001111) ())
(form c.jalr "jalr ra, 0(a)" ((a rn)) (.1001 a .0000010) ((set (x 1) next) (jump (and (x a) (c 64 -2)))))`

const a64Text = `(isa a64 word) (file x 32 64 zero 31) (file p 1 64) (file t 1 64) (file f 32 64) (flag n) (flag z) (flag c) (flag v)
(class r reg x 5) (class q reg x 5 except 31) (class u12 uns 12) (class d12 uns 12 shift 3) (class u16 uns 16) (class hw uns 2 shift 4) (class b19 pc 19 shift 2) (class c26 pc 26 shift 2) (class g21 sgn 21)
(form movk "movk d, i, lsl s" ((d r) (i u16) (s hw)) (.111100101 s i d) ((set (x d) (or (and (x d) (not (shl (c 64 65535) (imm s 64)))) (shl (imm i 64) (imm s 64))))))
(form addi.sa "add sp, a, i" ((a q) (i u12)) (.1001000100 i a .11111) ((set (p 0) (add (x a) (imm i 64)))))
(form subs "subs d, a, b" ((d r) (a r) (b r)) (.11101011000 b .000000 a d) ((set (x d) (sub (x a) (x b))) (set (flag n) (ex 63 63 (sub (x a) (x b)))) (set (flag z) (eq (x a) (x b))) (set (flag c) (not (ltu (x a) (x b)))) (set (flag v) (ex 63 63 (and (xor (x a) (x b)) (xor (x a) (sub (x a) (x b))))))))
(form udiv "udiv d, a, b" ((d r) (a r) (b r)) (.10011010110 b .000010 a d) ((set (x d) (if (eq (x b) (c 64 0)) (c 64 0) (divu (x a) (x b))))))
(form madd "madd d, a, b, e" ((d r) (a r) (b r) (e r)) (.10011011000 b .0 e a d) ((set (x d) (add (x e) (mul (x a) (x b))))))
(form ldr.s "ldr d, [sp, i]" ((d r) (i d12)) (.1111100101 i .11111 d) ((set (x d) (ld 64 (add (p 0) (imm i 64))))))
(form str.s "str s, [sp, i]" ((s r) (i d12)) (.1111100100 i .11111 s) ((st 64 (add (p 0) (imm i 64)) (x s))))
(form adrp "adrp d, t" ((d r) (t g21)) (.1 t[1:0] .10000 t[20:2] d) ((set (x d) (add (and pc (c 64 -4096)) (shl (imm t 64) (c 64 12))))))
(form bl "bl t" ((t c26)) (.100101 t) ((set (x 30) next) (jump (add pc (imm t 64)))))
(form b.gt "b.gt t" ((t b19)) (.01010100 t .01100) ((when (and (not (flag z)) (eq (flag n) (flag v))) (jump (add pc (imm t 64))))))
(form svc "svc i" ((i u16)) (.11010100000 i .00001) ((sys)))
(form mrs "mrs d, tpidr_el0" ((d r)) (.110101010011101111010000010 d) ((set (x d) (t 0))))`

const x64Text = `(isa x64 bytes) (file r 16 64) (file fs 1 64) (flag z) (flag s) (flag c) (flag o) (class g reg r 4) (class m reg r 4 except 4 12) (class i8 sgn 8) (class i32 sgn 32) (class u8 uns 8) (class c32 nx 32) (class s8 nx 8)
(form subi8 "sub d, i" ((d g) (i i8)) (.0100100 d[3] .10000011 .11101 d[2:0] i) ((set (r d) (sub (r d) (imm i 64))) (set (flag z) (eq (r d) (imm i 64))) (set (flag s) (ex 63 63 (sub (r d) (imm i 64)))) (set (flag c) (ltu (r d) (imm i 64))) (set (flag o) (ex 63 63 (and (xor (r d) (imm i 64)) (xor (r d) (sub (r d) (imm i 64))))))))
(form ldfs "mov d, fs:[i]" ((d g) (i i32)) (.01100100 .01001 d[3] .00 .10001011 .00 d[2:0] .10000100101 i[7:0] i[15:8] i[23:16] i[31:24]) ((set (r d) (ld 64 (add (fs 0) (imm i 64))))))
(form push "push s" ((s g)) (.0100000 s[3] .01010 s[2:0]) ((st 64 (sub (r 4) (c 64 8)) (r s)) (set (r 4) (sub (r 4) (c 64 8)))))
(form pop "pop d" ((d m)) (.0100000 d[3] .01011 d[2:0]) ((set (r d) (ld 64 (r 4))) (set (r 4) (add (r 4) (c 64 8)))))
(form call "call t" ((t c32)) (.11101000 t[7:0] t[15:8] t[23:16] t[31:24]) ((st 64 (sub (r 4) (c 64 8)) next) (set (r 4) (sub (r 4) (c 64 8))) (jump (add next (imm t 64)))))
(form ret "ret" () (.11000011) ((set (r 4) (add (r 4) (c 64 8))) (jump (ld 64 (r 4)))))
(form jle8 "jle t" ((t s8)) (.01111110 t) ((when (or (flag z) (xor (flag s) (flag o))) (jump (add next (imm t 64))))))
(form sar "sar d, i" ((d g) (i u8)) (.0100100 d[3] .11000001 .11111 d[2:0] i) ((set (r d) (sar (r d) (ex 5 0 (imm i 8))))))
(form syscall "syscall" () (.0000111100000101) ((sys)))
(form hlt "hlt" () (.11110100) ((trap 3)))`

// machine is a state and a memory in which instructions are done one after the other; forms are asked by their names.
type machine struct {
	t *testing.T
	d api.Desc
	p *term.Interp
	c api.Cpu
	m *mem.Memory
}

// on is a machine at the address 0x10000, of which the first file's registers are some numbers, with 64 bytes 0 from 0x2000 on.
func on(t *testing.T, text string, registers ...int) *machine {
	d := read(text)
	x := &machine{t, d, made(d), made(d).Start(), memoryOf([]api.Region{{At: 0x2000, Perm: 6, Bytes: make([]byte, 64)}})}
	x.c.Pc = 0x10000
	for n, v := range registers {
		x.c.Files[0][n] = uint64(v)
	}
	return x
}

// do does an instruction of so many bytes.
func (x *machine) do(size int, name string, vals ...int) api.Did {
	x.t.Helper()
	form := slices.IndexFunc(x.d.Forms, func(f api.Form) bool { return f.Name == name })
	c, did, e := x.p.Do(api.Insn{Form: form, Vals: vals}, size, x.c, x.m)
	if e != api.OK {
		x.t.Fatal(name, vals, e)
	}
	x.c = c
	return did
}

// gives does an instruction, and holds what a register of the first file becomes.
func (x *machine) gives(n int, want int, size int, name string, vals ...int) {
	x.t.Helper()
	pc := x.c.Pc
	did := x.do(size, name, vals...)
	if x.c.Files[0][n] != uint64(want) || x.c.Pc != pc+uint64(size) || did != (api.Did{}) {
		x.t.Errorf("%s %v: %#x, not %#x; %#x, %v", name, vals, x.c.Files[0][n], uint64(want), x.c.Pc, did)
	}
}

// goes does an instruction from 0x10000 on, and holds where it goes.
func (x *machine) goes(want uint64, size int, name string, vals ...int) {
	x.t.Helper()
	x.c.Pc = 0x10000
	if did := x.do(size, name, vals...); x.c.Pc != want || did != (api.Did{}) {
		x.t.Errorf("%s %v: goes to %#x, not %#x, %v", name, vals, x.c.Pc, want, did)
	}
}

func (x *machine) flags(want ...bool) {
	x.t.Helper()
	if !slices.Equal(x.c.Flags, want) {
		x.t.Error("flags", x.c.Flags, want)
	}
}

func TestRv64(t *testing.T) {
	x := on(t, rvText, 0, 7, -7, 2, 0x2000, -1<<63, -1, 0)
	x.gives(10, -1<<31, 4, "lui", 10, 0x80000)
	x.gives(10, 0x10004+0x1000, 4, "auipc", 10, 1)
	x.gives(0, 0, 4, "addi", 0, 1, 5)
	x.gives(10, 2, 4, "addi", 10, 1, -5)
	x.gives(10, 1, 4, "sltiu", 10, 1, -1)
	x.gives(10, -4, 4, "srai", 10, 2, 1)
	x.gives(10, -7<<7, 4, "sll", 10, 2, 1)
	x.gives(10, 6, 4, "addw", 10, 1, 6)
	x.gives(10, -3, 4, "divw", 10, 2, 3)
	x.gives(10, -3, 4, "div", 10, 2, 3)
	x.gives(10, -1, 4, "rem", 10, 2, 3)
	x.gives(10, -1, 4, "div", 10, 2, 0)
	x.gives(10, -7, 4, "rem", 10, 2, 0)
	x.gives(10, -1<<63, 4, "div", 10, 5, 6)
	x.gives(10, 0, 4, "rem", 10, 5, 6)
	x.gives(10, -1, 4, "mulh", 10, 1, 2)
	x.gives(10, 6, 4, "mulhu", 10, 1, 2)
	x.gives(10, 10, 4, "addi", 10, 1, 3)
	x.goes(0x10000-4, 4, "blt", 2, 1, -4)
	x.goes(0x10004, 4, "blt", 1, 2, -4)
	x.goes(0x10008, 4, "bltu", 1, 2, 8)
	x.goes(0x10004, 4, "bltu", 2, 1, 8)
	x.goes(0x20000, 4, "jal", 1, 0x10000)
	x.gives(11, 0x10004, 4, "addi", 11, 1, 0)
	x.goes(0x10004+4, 4, "jalr", 1, 5, 1)
	x.goes(0x10004, 2, "c.jalr", 1)
	x.gives(11, 0x10002, 4, "addi", 11, 1, 0)
	x.goes(0x10004, 4, "fence")
	if did := x.do(4, "ecall"); did != (api.Did{Kind: api.DidSys}) || x.c.Pc != 0x10008 {
		t.Error(did, x.c.Pc)
	}
	if did := x.do(4, "ebreak"); did != trap(1) || x.c.Pc != 0x10008 {
		t.Error(did, x.c.Pc)
	}
}

func TestRv64Memory(t *testing.T) {
	x := on(t, rvText, 0, 0x0123456789ABCDEF, 0, 0, 0x2008)
	x.gives(0, 0, 4, "sd", 1, -8, 4)
	x.gives(10, 0x0123456789ABCDEF, 4, "ld", 10, -8, 4)
	x.gives(10, -0x11, 4, "lb", 10, -8, 4)
	x.gives(10, 0xCDEF, 4, "lhu", 10, -8, 4)
	x.gives(10, -0x76543211, 4, "lw", 10, -8, 4)
	x.gives(10, 0x01234567, 4, "lw", 10, -4, 4)
	x.gives(0, 0, 4, "sb", 1, -1, 4)
	x.gives(0, 0, 4, "sw", 1, -6, 4)
	x.gives(10, -0x10DC_7654_3210_3211, 4, "ld", 10, -8, 4)
	if did := x.do(4, "ld", 10, 49, 4); did != noLoad(0x2039) {
		t.Error(did)
	}
	if did := x.do(4, "sd", 10, -9, 4); did != noStore(0x1FFF) {
		t.Error(did)
	}
}

func TestA64(t *testing.T) {
	x := on(t, a64Text, 0, 7, -7, 2, 0x2000, -1<<63, 1)
	x.gives(10, 0x1234<<16, 4, "movk", 10, 0x1234, 16)
	x.gives(10, 0x1234<<16|0x5678, 4, "movk", 10, 0x5678, 0)
	x.gives(10, 0x9ABC<<16|0x5678, 4, "movk", 10, 0x9ABC, 16)
	x.gives(10, 5, 4, "subs", 10, 1, 3)
	x.flags(false, false, true, false)
	x.goes(0x10008, 4, "b.gt", 8)
	x.gives(10, -5, 4, "subs", 10, 3, 1)
	x.flags(true, false, false, false)
	x.goes(0x10004, 4, "b.gt", 8)
	x.gives(31, 0, 4, "subs", 31, 1, 1)
	x.flags(false, true, true, false)
	x.goes(0x10004, 4, "b.gt", 8)
	x.gives(10, 1<<63-1, 4, "subs", 10, 5, 6)
	x.flags(false, false, true, true)
	x.gives(10, 0, 4, "udiv", 10, 1, 31)
	x.gives(10, 3, 4, "udiv", 10, 1, 3)
	x.gives(10, -47, 4, "madd", 10, 1, 2, 3)
	x.gives(10, -49, 4, "madd", 10, 1, 2, 31)
	x.gives(31, 0, 4, "addi.sa", 4, 16)
	x.gives(31, 0, 4, "str.s", 1, 8)
	x.gives(11, 7, 4, "ldr.s", 11, 8)
	x.gives(11, 0, 4, "ldr.s", 11, 0)
	x.gives(11, 0xF000, 4, "adrp", 11, -1)
	x.goes(0x10000-8, 4, "bl", -8)
	if x.c.Files[0][30] != 0x10004 {
		t.Error(x.c.Files[0][30])
	}
	x.c.Files[2][0] = 77
	x.gives(11, 77, 4, "mrs", 11)
	if did := x.do(4, "svc", 9); did != (api.Did{Kind: api.DidSys}) {
		t.Error(did)
	}
	if did := x.do(4, "ldr.s", 1, 64); did != noLoad(0x2050) {
		t.Error(did)
	}
}

func TestX64(t *testing.T) {
	x := on(t, x64Text, 5, -1<<63, 0, 3, 0x2010)
	x.gives(0, 0, 4, "subi8", 0, 5)
	x.flags(true, false, false, false)
	x.goes(0x10002-2, 2, "jle8", -2)
	x.gives(0, 1, 4, "subi8", 0, -1)
	x.flags(false, false, true, false)
	x.goes(0x10002, 2, "jle8", -2)
	x.gives(0, -1, 4, "subi8", 0, 2)
	x.flags(false, true, true, false)
	x.goes(0x10007, 2, "jle8", 5)
	x.gives(1, 1<<63-1, 4, "subi8", 1, 1)
	x.flags(false, false, false, true)
	x.gives(1, 1<<61-1, 4, "sar", 1, 66)
	x.gives(4, 0x2008, 1, "push", 3)
	x.gives(4, 0x2000, 1, "push", 4)
	x.gives(7, 0x2008, 1, "pop", 7)
	x.gives(7, 3, 1, "pop", 7)
	x.gives(4, 0x2008, 1, "push", 7)
	x.goes(0x10005+100, 5, "call", 100)
	x.c.Pc = 0x10100
	if did := x.do(1, "ret"); x.c.Pc != 0x10005 || x.c.Files[0][4] != 0x2008 || did != (api.Did{}) {
		t.Errorf("ret %#x %v", x.c.Pc, did)
	}
	x.c.Files[1][0] = 0x2010
	x.gives(8, 3, 9, "ldfs", 8, -8)
	if did := x.do(2, "syscall"); did != (api.Did{Kind: api.DidSys}) {
		t.Error(did)
	}
	if did := x.do(1, "hlt"); did != trap(3) {
		t.Error(did)
	}
	// A push that memory doesn't take leaves the stack as it was.
	x.c.Files[0][4] = 0x2004
	if did := x.do(1, "push", 3); did != noStore(0x1FFC) || x.c.Files[0][4] != 0x2004 {
		t.Error(did, x.c.Files[0][4])
	}
	x.c.Files[0][4] = 0x2040
	if did := x.do(1, "ret"); did != noLoad(0x2040) || x.c.Files[0][4] != 0x2040 {
		t.Error(did, x.c.Files[0][4])
	}
}
