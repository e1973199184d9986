package isacheck_test

import (
	"testing"

	"dovetail/api"
	"dovetail/isacheck"
)

// Parts of the shipped descriptions (layer 10), in which some forms are disjoint by an excepted value alone.

const rvText = `(isa rv64 word) (file x 32 64 zero 0)
(class r reg x 5) (class rn reg x 5 except 0) (class rl reg x 5 except 0 2) (class rc reg x 3 plus 8)
(class i12 sgn 12) (class u20 uns 20) (class cn sgn 6 except 0) (class cp sgn 6 shift 4 except 0) (class c4 uns 8 shift 2 except 0)
(form auipc "auipc d, i" ((d r) (i u20)) (i d .0010111) ((set (x d) (add pc (sx 64 (shl (imm i 32) (c 32 12)))))))
(form jalr "jalr d, i(a)" ((d r) (i i12) (a r)) (i a .000 d .1100111) ((set (x d) next) (jump (and (add (x a) (imm i 64)) (c 64 -2)))))
(form sw "sw b, i(a)" ((b r) (i i12) (a r)) (i[11:5] b a .010 i[4:0] .0100011) ((st 32 (add (x a) (imm i 64)) (ex 31 0 (x b)))))
(form mulhsu "mulhsu d, a, b" ((d r) (a r) (b r)) (.0000001 b a .010 d .0110011) ((set (x d) (ex 127 64 (mul (sx 128 (x a)) (zx 128 (x b)))))))
(form fence "fence" () (.xxxxxxxxxxxxxxxxx .000 .xxxxx .0001111) ())
(form c.addi4spn "addi d, sp, i" ((d rc) (i c4)) (.000 i[3:2] i[7:4] i[0] i[1] d .00) ((set (x d) (add (x 2) (imm i 64)))))
(form c.nop "addi zero, zero, 0" () (.0000000000000001) ())
(form c.addi "addi d, d, i" ((d rn) (i cn)) (.000 i[5] d i[4:0] .01) ((set (x d) (add (x d) (imm i 64)))))
(form c.addi16sp "addi sp, sp, i" ((i cp)) (.011 i[5] .00010 i[0] i[2] i[4:3] i[1] .01) ((set (x 2) (add (x 2) (imm i 64)))))
(form c.lui "lui d, i" ((d rl) (i cn)) (.011 i[5] d i[4:0] .01) ((set (x d) (shl (imm i 64) (c 64 12)))))
(form c.jr "jalr zero, 0(a)" ((a rn)) (.1000 a .0000010) ((jump (and (x a) (c 64 -2)))))
(form c.mv "addi d, b, 0" ((d rn) (b rn)) (.1000 d b .10) ((set (x d) (x b))))
(form c.ebreak "ebreak" () (.1001000000000010) ((trap 1)))
(form c.jalr "jalr ra, 0(a)" ((a rn)) (.1001 a .0000010) ((set (x 1) next) (jump (and (x a) (c 64 -2)))))
(form c.add "add d, d, b" ((d rn) (b rn)) (.1001 d b .10) ((set (x d) (add (x d) (x b)))))
(rel R_RISCV_CALL_PLT 19 pair u20 i12 (sub (add S A) P) (signed 32) (round 2048))`

const a64Text = `(isa a64 word) (file x 32 64 zero 31) (file p 1 64) (class r reg x 5) (class q reg x 5 except 31) (class u12 uns 12)
(form addi "add d, a, i" ((d q) (a q) (i u12)) (.1001000100 i a d) ((set (x d) (add (x a) (imm i 64)))))
(form addi.ds "add d, sp, i" ((d q) (i u12)) (.1001000100 i .11111 d) ((set (x d) (add (p 0) (imm i 64)))))
(form addi.sa "add sp, a, i" ((a q) (i u12)) (.1001000100 i a .11111) ((set (p 0) (add (x a) (imm i 64)))))
(form addi.ss "add sp, sp, i" ((i u12)) (.1001000100 i .1111111111) ((set (p 0) (add (p 0) (imm i 64)))))
(form madd "madd d, a, b, e" ((d r) (a r) (b r) (e r)) (.10011011000 b .0 e a d) ((set (x d) (add (x e) (mul (x a) (x b))))))`

const x64Text = `(isa x64 bytes) (file r 16 64) (flag z) (class g reg r 4) (class m reg r 4 except 4 12) (class d8 sgn 8) (class i64 sgn 64)
(form movabs "mov d, i" ((d g) (i i64)) (.0100100 d[3] .10111 d[2:0] i[7:0] i[15:8] i[23:16] i[31:24] i[39:32] i[47:40] i[55:48] i[63:56]) ((set (r d) (imm i 64))))
(form ld8 "mov d, [a + i]" ((d g) (a m) (i d8)) (.01001 d[3] .0 a[3] .10001011 .01 d[2:0] a[2:0] i) ((set (r d) (ld 64 (add (r a) (imm i 64))))))
(form lds8 "mov d, [rsp + i]" ((d g) (i d8)) (.01001 d[3] .00 .10001011 .01 d[2:0] .10000100100 i) ((set (r d) (ld 64 (add (r 4) (imm i 64))))))
(form push "push s" ((s g)) (.0100000 s[3] .01010 s[2:0]) ((st 64 (sub (r 4) (c 64 8)) (r s)) (set (r 4) (sub (r 4) (c 64 8)))))
(form je8 "je t" ((t d8)) (.01110100 t) ((when (flag z) (jump (add next (imm t 64))))))`

// TestExcerpts: they are right; if a class excepts nothing, some form isn't disjoint from one ahead of it.
func TestExcerpts(t *testing.T) {
	for _, c := range []struct {
		text    string
		clashes map[int]int // by the class: the form
		size    int         // of the form 0
	}{
		{rvText, map[int]int{1: 11, 2: 9, 6: -1, 8: -1}, 4},
		{a64Text, map[int]int{1: 1}, 4},
		{x64Text, map[int]int{1: 2}, 10},
	} {
		d := read(c.text)
		checks(t, d.Name, d, 0, api.OK)
		if n := isacheck.Size(d, 0); n != c.size {
			t.Error(d.Name, n)
		}
		for class, form := range c.clashes {
			d := read(c.text)
			d.Classes[class].Except = nil
			place, want := form, api.ErrClash
			if form < 0 {
				place, want = 0, api.OK
			}
			checks(t, d.Name+" without what "+d.Classes[class].Name+" excepts", d, place, want)
		}
	}
}
