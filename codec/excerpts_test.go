package codec_test

import (
	"bytes"
	"slices"
	"testing"

	"dovetail/api"
	"dovetail/codec"
)

// Parts of the shipped descriptions (layer 10), and the bytes that some instructions have on these machines.

const rvText = `(isa rv64 word) (file x 32 64 zero 0)
(class r reg x 5) (class rn reg x 5 except 0) (class rl reg x 5 except 0 2) (class rc reg x 3 plus 8)
(class i12 sgn 12) (class u20 uns 20) (class u6 uns 6) (class b13 pc 12 shift 1) (class j21 pc 20 shift 1) (class cb pc 8 shift 1) (class cj pc 11 shift 1)
(class ci sgn 6) (class cn sgn 6 except 0) (class cp sgn 6 shift 4 except 0) (class c4 uns 8 shift 2 except 0) (class cw uns 5 shift 2) (class cx uns 6 shift 3)
(form lui "lui d, i" ((d r) (i u20)) (i d .0110111) ())
(form jal "jal d, t" ((d r) (t j21)) (t[19] t[9:0] t[10] t[18:11] d .1101111) ())
(form beq "beq a, b, t" ((a r) (b r) (t b13)) (t[11] t[9:4] b a .000 t[3:0] t[10] .1100011) ())
(form ld "ld d, i(a)" ((d r) (i i12) (a r)) (i a .011 d .0000011) ())
(form sd "sd b, i(a)" ((b r) (i i12) (a r)) (i[11:5] b a .011 i[4:0] .0100011) ())
(form addi "addi d, a, i" ((d r) (a r) (i i12)) (i a .000 d .0010011) ())
(form slli "slli d, a, i" ((d r) (a r) (i u6)) (.000000 i a .001 d .0010011) ())
(form ecall "ecall" () (.00000000000000000000000001110011) ((sys)))
(form fence "fence" () (.xxxxxxxxxxxxxxxxx .000 .xxxxx .0001111) ())
(form c.addi4spn "addi d, sp, i" ((d rc) (i c4)) (.000 i[3:2] i[7:4] i[0] i[1] d .00) ())
(form c.lw "lw d, i(a)" ((d rc) (i cw) (a rc)) (.010 i[3:1] a i[0] i[4] d .00) ())
(form c.nop "addi zero, zero, 0" () (.0000000000000001) ())
(form c.addi "addi d, d, i" ((d rn) (i cn)) (.000 i[5] d i[4:0] .01) ())
(form c.li "addi d, zero, i" ((d rn) (i ci)) (.010 i[5] d i[4:0] .01) ())
(form c.addi16sp "addi sp, sp, i" ((i cp)) (.011 i[5] .00010 i[0] i[2] i[4:3] i[1] .01) ())
(form c.lui "lui d, i" ((d rl) (i cn)) (.011 i[5] d i[4:0] .01) ())
(form c.j "jal zero, t" ((t cj)) (.101 t[10] t[3] t[8:7] t[9] t[5] t[6] t[2:0] t[4] .01) ())
(form c.beqz "beq a, zero, t" ((a rc) (t cb)) (.110 t[7] t[3:2] a t[6:5] t[1:0] t[4] .01) ())
(form c.jr "jalr zero, 0(a)" ((a rn)) (.1000 a .0000010) ())
(form c.mv "addi d, b, 0" ((d rn) (b rn)) (.1000 d b .10) ())
(form c.ebreak "ebreak" () (.1001000000000010) ((trap 1)))
(form c.jalr "jalr ra, 0(a)" ((a rn)) (.1001 a .0000010) ())
(form c.add "add d, d, b" ((d rn) (b rn)) (.1001 d b .10) ())
(form c.sdsp "sd b, i(sp)" ((b r) (i cx)) (.111 i[2:0] i[5:3] b .10) ())`

const a64Text = `(isa a64 word) (file x 32 64 zero 31) (class r reg x 5) (class q reg x 5 except 31) (class u12 uns 12) (class d12 uns 12 shift 3)
(class u16 uns 16) (class hw uns 2 shift 4) (class b26 pc 26 shift 2) (class b19 pc 19 shift 2) (class a21 pc 21)
(form movz "movz d, i, lsl s" ((d r) (i u16) (s hw)) (.110100101 s i d) ())
(form addi "add d, a, i" ((d q) (a q) (i u12)) (.1001000100 i a d) ())
(form addi.ds "add d, sp, i" ((d q) (i u12)) (.1001000100 i .11111 d) ())
(form addi.sa "add sp, a, i" ((a q) (i u12)) (.1001000100 i a .11111) ())
(form addi.ss "add sp, sp, i" ((i u12)) (.1001000100 i .1111111111) ())
(form madd "madd d, a, b, e" ((d r) (a r) (b r) (e r)) (.10011011000 b .0 e a d) ())
(form ldr "ldr d, [a, i]" ((d r) (a q) (i d12)) (.1111100101 i a d) ())
(form adr "adr d, t" ((d r) (t a21)) (.0 t[1:0] .10000 t[20:2] d) ())
(form b "b t" ((t b26)) (.000101 t) ())
(form b.eq "b.eq t" ((t b19)) (.01010100 t .00000) ())
(form ret "ret a" ((a r)) (.1101011001011111000000 a .00000) ())
(form mrs "mrs d, tpidr_el0" ((d r)) (.110101010011101111010000010 d) ())`

const x64Text = `(isa x64 bytes) (file r 16 64) (file f 8 64) (class g reg r 4) (class m reg r 4 except 4 12) (class xr reg f 3)
(class d8 sgn 8) (class i32 sgn 32) (class i64 sgn 64) (class s8 nx 8) (class c32 nx 32)
(form mov "mov d, s" ((d g) (s g)) (.01001 s[3] .0 d[3] .10001001 .11 s[2:0] d[2:0]) ())
(form movi "mov d, i" ((d g) (i i32)) (.0100100 d[3] .11000111 .11000 d[2:0] i[7:0] i[15:8] i[23:16] i[31:24]) ())
(form movabs "mov d, i" ((d g) (i i64)) (.0100100 d[3] .10111 d[2:0] i[7:0] i[15:8] i[23:16] i[31:24] i[39:32] i[47:40] i[55:48] i[63:56]) ())
(form ld8 "mov d, [a + i]" ((d g) (a m) (i d8)) (.01001 d[3] .0 a[3] .10001011 .01 d[2:0] a[2:0] i) ())
(form lds8 "mov d, [rsp + i]" ((d g) (i d8)) (.01001 d[3] .00 .10001011 .01 d[2:0] .10000100100 i) ())
(form ldfs "mov d, fs:[i]" ((d g) (i i32)) (.01100100 .01001 d[3] .00 .10001011 .00 d[2:0] .10000100101 i[7:0] i[15:8] i[23:16] i[31:24]) ())
(form push "push s" ((s g)) (.0100000 s[3] .01010 s[2:0]) ())
(form call "call t" ((t c32)) (.11101000 t[7:0] t[15:8] t[23:16] t[31:24]) ())
(form jmp8 "jmp t" ((t s8)) (.11101011 t) ())
(form syscall "syscall" () (.0000111100000101) ((sys)))
(form addsd "addsd d, s" ((d xr) (s xr)) (.11110010 .00001111 .01011000 .11 d s) ((trap 2)))`

// excerpt is a codec whose forms are asked by their names.
type excerpt struct {
	t *testing.T
	d api.Desc
	c *codec.Codec
}

func excerptOf(t *testing.T, text string) excerpt {
	d := read(text)
	return excerpt{t, d, made(d)}
}

func (x excerpt) insn(name string, vals ...int) api.Insn {
	return api.Insn{Form: slices.IndexFunc(x.d.Forms, func(f api.Form) bool { return f.Name == name }), Vals: vals}
}

// word holds an instruction against a number of so many bytes, the lowest one first.
func (x excerpt) word(size int, want uint32, name string, vals ...int) {
	x.t.Helper()
	b := []byte{byte(want), byte(want >> 8), byte(want >> 16), byte(want >> 24)}
	encodes(x.t, name, x.c, x.insn(name, vals...), b[:size])
}

func (x excerpt) bytes(want []byte, name string, vals ...int) {
	x.t.Helper()
	encodes(x.t, name, x.c, x.insn(name, vals...), want)
}

func TestRv64(t *testing.T) {
	x := excerptOf(t, rvText)
	x.bytes([]byte{0x93, 0, 0x50, 0}, "addi", 1, 0, 5)
	x.word(4, 0x12345537, "lui", 10, 0x12345)
	x.word(4, 0x008000EF, "jal", 1, 8)
	x.word(4, 0xFFDFF06F, "jal", 0, -4)
	x.word(4, 0xFE208EE3, "beq", 1, 2, -4)
	x.word(4, 0x00813083, "ld", 1, 8, 2)
	x.word(4, 0x00113423, "sd", 1, 8, 2)
	x.word(4, 0x03F51513, "slli", 10, 10, 63)
	x.word(4, 0x00000073, "ecall")
	x.word(2, 0x0808, "c.addi4spn", 10, 16)
	x.word(2, 0x414C, "c.lw", 11, 4, 10)
	x.word(2, 0x0001, "c.nop")
	x.word(2, 0x1141, "c.addi", 2, -16)
	x.word(2, 0x4505, "c.li", 10, 1)
	x.word(2, 0x7139, "c.addi16sp", -64)
	x.word(2, 0x6505, "c.lui", 10, 1)
	x.word(2, 0xBFF5, "c.j", -4)
	x.word(2, 0xC501, "c.beqz", 10, 8)
	x.word(2, 0x8082, "c.jr", 1)
	x.word(2, 0x852E, "c.mv", 10, 11)
	x.word(2, 0x9002, "c.ebreak")
	x.word(2, 0x9082, "c.jalr", 1)
	x.word(2, 0x952E, "c.add", 10, 11)
	x.word(2, 0xE406, "c.sdsp", 1, 8)
	x.word(4, 0x0000000F, "fence")
	decodes(t, "fence rw, rw", x.c, []byte{0x0F, 0, 0x30, 3}, x.insn("fence"), 4)
	for _, n := range []int{0, 2} {
		refuses(t, "c.lui", x.c, x.insn("c.lui", n, 1), api.ErrRange)
	}
	refuses(t, "beq", x.c, x.insn("beq", 1, 2, 5000), api.ErrRange)
	decodesNone(t, "c.addi4spn of 0", x.c, []byte{0x08, 0, 0, 0})
	decodesNone(t, "noughts", x.c, make([]byte, 4))
	if x.c.Canonical(x.insn("fence").Form) || !x.c.Canonical(x.insn("c.nop").Form) {
		t.Error("canonical")
	}
}

func TestA64(t *testing.T) {
	x := excerptOf(t, a64Text)
	x.word(4, 0xD2A00020, "movz", 0, 1, 16)
	x.word(4, 0xD2FFFFFF, "movz", 31, 0xFFFF, 48)
	x.word(4, 0x91000420, "addi", 0, 1, 1)
	x.word(4, 0x910043E0, "addi.ds", 0, 16)
	x.word(4, 0x910043FF, "addi.ss", 16)
	x.word(4, 0x9100401F, "addi.sa", 0, 16)
	x.word(4, 0x9B020C20, "madd", 0, 1, 2, 3)
	x.word(4, 0xF9400420, "ldr", 0, 1, 8)
	x.word(4, 0x70FFFFE0, "adr", 0, -1)
	x.word(4, 0x17FFFFFF, "b", -4)
	x.word(4, 0x54000040, "b.eq", 8)
	x.word(4, 0xD65F03C0, "ret", 30)
	x.word(4, 0xD53BD040, "mrs", 0)
	refuses(t, "movz", x.c, x.insn("movz", 0, 1, 8), api.ErrRange)
	refuses(t, "movz", x.c, x.insn("movz", 0, 1, 64), api.ErrRange)
	refuses(t, "addi", x.c, x.insn("addi", 31, 0, 0), api.ErrRange)
	decodesNone(t, "ldr of sp", x.c, []byte{0xE0, 0x07, 0x40, 0xF9})
}

func TestX64(t *testing.T) {
	x := excerptOf(t, x64Text)
	x.bytes([]byte{0x48, 0x89, 0xD8}, "mov", 0, 3)
	x.bytes([]byte{0x49, 0x89, 0xC8}, "mov", 8, 1)
	x.bytes([]byte{0x48, 0xC7, 0xC0, 5, 0, 0, 0}, "movi", 0, 5)
	x.bytes([]byte{0x48, 0xB8, 0, 0xF2, 5, 0x2A, 1, 0, 0, 0}, "movabs", 0, 5000000000)
	x.bytes([]byte{0x48, 0x8B, 0x43, 8}, "ld8", 0, 3, 8)
	x.bytes([]byte{0x4D, 0x8B, 0x4D, 0xF0}, "ld8", 9, 13, -16)
	x.bytes([]byte{0x48, 0x8B, 0x44, 0x24, 8}, "lds8", 0, 8)
	x.bytes([]byte{0x64, 0x48, 0x8B, 0x04, 0x25, 0xF8, 0xFF, 0xFF, 0xFF}, "ldfs", 0, -8)
	x.bytes([]byte{0x41, 0x54}, "push", 12)
	x.bytes([]byte{0xE8, 0xFB, 0xFF, 0xFF, 0xFF}, "call", -5)
	x.bytes([]byte{0xEB, 0xFE}, "jmp8", -2)
	x.bytes([]byte{0x0F, 5}, "syscall")
	x.bytes([]byte{0xF2, 0x0F, 0x58, 0xCA}, "addsd", 1, 2)
	refuses(t, "movi", x.c, x.insn("movi", 0, 5000000000), api.ErrRange)
	refuses(t, "ld8", x.c, x.insn("ld8", 0, 12, 0), api.ErrRange)
	refuses(t, "jmp8", x.c, x.insn("jmp8", 128), api.ErrRange)
	decodesNone(t, "mov with sp as it isn't written", x.c, []byte{0x48, 0x8B, 0x44, 0x23, 8})
}

// TestExcerptsBack: what bytes of all kinds are is encoded as these again, if the form is canonical.
func TestExcerptsBack(t *testing.T) {
	for _, text := range []string{rvText, a64Text, x64Text} {
		x := excerptOf(t, text)
		met := map[int]int{}
		for n := range 1 << 20 {
			b := []byte{byte(n), byte(n >> 8), byte(n>>16*0x11 ^ n>>3), byte(n * 77), byte(n >> 16), byte(n >> 9), 1}
			in, size, e := x.c.Decode(b)
			if e != api.OK || !x.c.Canonical(in.Form) {
				continue
			}
			met[in.Form]++
			if again, e := x.c.Encode(in); e != api.OK || !bytes.Equal(again, b[:size]) {
				t.Fatalf("%s: % x: %v, % x, %v", x.d.Name, b, in, again, e)
			}
		}
		if len(met) < 5 {
			t.Error(x.d.Name, met)
		}
	}
}
