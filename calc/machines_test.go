package calc_test

import (
	"bytes"
	"encoding/binary"
	"math"
	"slices"
	"testing"

	"dovetail/api"
	"dovetail/calc"
	"dovetail/targets"
)

// machine is a target with its patcher; its relocations are asked by their names.
type machine struct {
	t *testing.T
	d api.Desc
	p *calc.Patcher
}

func machineOf(t *testing.T, name string) machine {
	t.Helper()
	d, ok := targets.Desc(name)
	p, e := calc.New(d)
	if !ok || e != api.OK {
		t.Fatal(name, e)
	}
	return machine{t, d, p}
}

func (m machine) rel(name string) int {
	m.t.Helper()
	n := slices.IndexFunc(m.d.Rels, func(x api.Rel) bool { return x.Name == name })
	if n < 0 {
		m.t.Fatal(m.d.Name, "has no", name)
	}
	return n
}

// words are bytes of words of 32 bits.
func words(l ...uint32) []byte {
	var b []byte
	for _, w := range l {
		b = binary.LittleEndian.AppendUint32(b, w)
	}
	return b
}

// puts holds the value of a relocation, that it may have it, and the words that come of it.
func (m machine) puts(name string, e api.Env, v int, before, after []uint32) {
	m.t.Helper()
	n := m.rel(name)
	if got, f := m.p.Value(n, e); got != v || f != api.OK {
		m.t.Errorf("%s: %#x, %v, not %#x", name, got, f, v)
	}
	if f := m.p.Check(n, v); f != api.OK {
		m.t.Errorf("%s: %#x: %v", name, v, f)
	}
	b := slices.Concat([]byte{1, 2, 3, 4, 5}, words(before...), []byte{6, 7})
	want := slices.Concat([]byte{1, 2, 3, 4, 5}, words(after...), []byte{6, 7})
	if out, f := m.p.Apply(n, b, 5, v); f != api.OK || !bytes.Equal(out, want) {
		m.t.Errorf("%s: %#x: % x, %v, not % x", name, v, out, f, want)
	}
}

// bounds holds what Check answers of values.
func (m machine) bounds(name string, want api.Errno, values ...int) {
	m.t.Helper()
	for _, v := range values {
		if e := m.p.Check(m.rel(name), v); e != want {
			m.t.Errorf("%s: %#x: %v, not %v", name, v, e, want)
		}
	}
}

// at are bits lo to hi of a number, laid to a place of a word.
func at(v, hi, lo, place int) uint32 {
	return uint32(uint64(v)>>lo&(1<<(hi-lo+1)-1)) << place
}

// near are distances of so many bits with a sign, multiples of a step.
func near(bits, step int) []int {
	l := []int{0, step, -step, 2 * step, 5 * step, -7 * step, 1<<(bits-1) - step, -1 << (bits - 1), 0x2D2D2D2D2 >> (35 - bits) & -step, ^0x2D2D2D2D2 >> (35 - bits) & -step}
	for n := range bits - 1 {
		if 1<<n >= step {
			l = append(l, 1<<n, -1<<n)
		}
	}
	return l
}

// TestRv64Jumps: the bits of branches and jumps as the machine's manual scatters them.
func TestRv64Jumps(t *testing.T) {
	m := machineOf(t, "rv64")
	for _, v := range near(13, 2) {
		bits := at(v, 12, 12, 31) | at(v, 10, 5, 25) | at(v, 4, 1, 8) | at(v, 11, 11, 7)
		m.puts("R_RISCV_BRANCH", api.Env{S: 0x100000 + v, A: -8, P: 0xFFFF8}, v, []uint32{0x00B50063}, []uint32{0x00B50063 | bits})
		m.puts("R_RISCV_BRANCH", api.Env{S: v, P: 0}, v, []uint32{0xFEB51FE3}, []uint32{0x00B51063 | bits})
	}
	for _, v := range near(21, 2) {
		bits := at(v, 20, 20, 31) | at(v, 10, 1, 21) | at(v, 11, 11, 20) | at(v, 19, 12, 12)
		m.puts("R_RISCV_JAL", api.Env{S: 0x10000000 + v, A: 8, P: 0x10000008}, v, []uint32{0x000000EF}, []uint32{0x000000EF | bits})
	}
	m.bounds("R_RISCV_BRANCH", api.ErrRelRange, 4096, -4097, -4098, 4097, math.MaxInt, math.MinInt)
	m.bounds("R_RISCV_BRANCH", api.ErrRelAlign, 1, -1, 4095, -4095)
	m.bounds("R_RISCV_JAL", api.ErrRelRange, 1<<20, -1<<20-1, -1<<20-2)
	m.bounds("R_RISCV_JAL", api.ErrRelAlign, 1, 1<<20-1)
}

func TestRv64Parts(t *testing.T) {
	m := machineOf(t, "rv64")
	for _, v := range append(near(32, 1), 0x7FFFF7FF, 0x7FF, 0x800, -0x800, -0x801, 0xFFF, 0x12345800, 0x12345FFF) {
		if v > 0x7FFFF7FF {
			v -= 0x800
		}
		high := uint32(v+0x800) & 0xFFFFF000
		m.puts("R_RISCV_CALL_PLT", api.Env{S: v, A: 3, P: 3}, v, []uint32{0x00000317, 0x000300E7}, []uint32{high | 0x317, at(v, 11, 0, 20) | 0x000300E7})
		m.puts("R_RISCV_CALL_PLT", api.Env{S: v, A: 3, P: 3}, v, []uint32{0xFFFFF317, 0xFFF300E7}, []uint32{high | 0x317, at(v, 11, 0, 20) | 0x000300E7})
		m.puts("R_RISCV_HI20", api.Env{S: v, A: 0}, v, []uint32{0x55555537}, []uint32{high | 0x537})
		m.puts("R_RISCV_TPREL_HI20", api.Env{T: v - 1, A: 1}, v, []uint32{0x55555537}, []uint32{high | 0x537})
		for name, e := range map[string]api.Env{"R_RISCV_LO12_I": {S: v, A: 0}, "R_RISCV_TPREL_LO12_I": {T: v, A: 0}} {
			m.puts(name, e, v, []uint32{0x55550513}, []uint32{at(v, 11, 0, 20) | 0x50513})
			m.puts(name, e, v, []uint32{0x00053503}, []uint32{at(v, 11, 0, 20) | 0x53503})
		}
		for name, e := range map[string]api.Env{"R_RISCV_LO12_S": {S: v, A: 0}, "R_RISCV_TPREL_LO12_S": {T: v, A: 0}} {
			m.puts(name, e, v, []uint32{0xFEB53FA3}, []uint32{at(v, 11, 5, 25) | at(v, 4, 0, 7) | 0x00B53023})
		}
	}
	for _, name := range []string{"R_RISCV_CALL_PLT", "R_RISCV_HI20", "R_RISCV_TPREL_HI20"} {
		m.bounds(name, api.OK, 0x7FFFF7FF, -0x80000800)
		m.bounds(name, api.ErrRelRange, 0x7FFFF800, -0x80000801, math.MaxInt, math.MinInt)
	}
	m.bounds("R_RISCV_LO12_I", api.OK, far...)
	m.bounds("R_RISCV_32", api.OK, 1<<32-1, -1<<31)
	m.bounds("R_RISCV_32", api.ErrRelRange, 1<<32, -1<<31-1)
}

// TestRv64Example is the chapter's.
func TestRv64Example(t *testing.T) {
	m := machineOf(t, "rv64")
	m.puts("R_RISCV_HI20", api.Env{S: 0x12345, A: 0x800}, 0x12B45, []uint32{0x00000537}, []uint32{0x00013537})
}

func TestRv64Data(t *testing.T) {
	m := machineOf(t, "rv64")
	m.puts("R_RISCV_32", api.Env{S: 0x87654321, A: 1}, 0x87654322, []uint32{0x11111111}, []uint32{0x87654322})
	m.puts("R_RISCV_32", api.Env{S: 0, A: -2}, -2, []uint32{0x11111111}, []uint32{0xFFFFFFFE})
	m.puts("R_RISCV_64", api.Env{S: 0x1122334487654321, A: -1}, 0x1122334487654320, []uint32{0x11111111, 0}, []uint32{0x87654320, 0x11223344})
	for _, name := range []string{"R_RISCV_NONE", "R_RISCV_ALIGN", "R_RISCV_RELAX"} {
		m.puts(name, env, 0, []uint32{0x12345678}, []uint32{0x12345678})
	}
}

// TestRv64None: instructions without such an operand.
func TestRv64None(t *testing.T) {
	m := machineOf(t, "rv64")
	for name, code := range map[string][]byte{
		"R_RISCV_BRANCH": words(0x000000EF), "R_RISCV_JAL": words(0x00B50063), "R_RISCV_HI20": words(0x00050513), "R_RISCV_LO12_I": words(0x00B53023),
		"R_RISCV_LO12_S": words(0x00050513), "R_RISCV_CALL_PLT": words(0x00000317, 0x00000317), "R_RISCV_TPREL_HI20": {0x37, 0x05, 0},
	} {
		if b, e := m.p.Apply(m.rel(name), code, 0, 0); len(b) != 0 || e != api.ErrRelInsn {
			t.Errorf("%s: % x %v", name, b, e)
		}
	}
	// auipc has an operand of the class, too.
	m.puts("R_RISCV_HI20", api.Env{S: 0x5000}, 0x5000, []uint32{0x00000317}, []uint32{0x00005317})
}

func TestA64Jumps(t *testing.T) {
	m := machineOf(t, "a64")
	for _, v := range near(28, 4) {
		m.puts("R_AARCH64_CALL26", api.Env{S: 0x20000000 + v, A: 4, P: 0x20000004}, v, []uint32{0x94000000}, []uint32{0x94000000 | at(v, 27, 2, 0)})
		m.puts("R_AARCH64_JUMP26", api.Env{S: 0x20000000 + v, A: 4, P: 0x20000004}, v, []uint32{0x17FFFFFF}, []uint32{0x14000000 | at(v, 27, 2, 0)})
	}
	for _, v := range near(21, 4) {
		m.puts("R_AARCH64_CONDBR19", api.Env{S: v, A: 4, P: 4}, v, []uint32{0x54000001}, []uint32{0x54000001 | at(v, 20, 2, 5)})
		m.puts("R_AARCH64_CONDBR19", api.Env{S: v, A: 4, P: 4}, v, []uint32{0xB4FFFFE3}, []uint32{0xB4000003 | at(v, 20, 2, 5)})
	}
	for _, v := range near(21, 1) {
		m.puts("R_AARCH64_ADR_PREL_LO21", api.Env{S: v, A: 1 << 40, P: 1 << 40}, v, []uint32{0x10000005}, []uint32{0x10000005 | at(v, 1, 0, 29) | at(v, 20, 2, 5)})
	}
	m.bounds("R_AARCH64_CALL26", api.ErrRelRange, 1<<27, -1<<27-4)
	m.bounds("R_AARCH64_CALL26", api.ErrRelAlign, 1, 2, 3, 1<<27-1)
	m.bounds("R_AARCH64_CONDBR19", api.ErrRelRange, 1<<20, -1<<20-4)
	m.bounds("R_AARCH64_CONDBR19", api.ErrRelAlign, 2)
	m.bounds("R_AARCH64_ADR_PREL_LO21", api.ErrRelRange, 1<<20, -1<<20-1)
}

func TestA64Parts(t *testing.T) {
	m := machineOf(t, "a64")
	for _, v := range near(33, 4096) {
		adrp := []uint32{0x90000007 | at(v, 13, 12, 29) | at(v, 32, 14, 5)}
		m.puts("R_AARCH64_ADR_PREL_PG_HI21", api.Env{S: v + 1<<40 + 0xABC, A: 1, P: 1<<40 + 0xFFC}, v, []uint32{0xF0FFFFE7}, adrp)
		m.puts("R_AARCH64_ADR_GOT_PAGE", api.Env{G: v + 1<<40 + 0xABC, A: 1, P: 1<<40 + 0xFFC}, v, []uint32{0x90000007}, adrp)
		m.puts("R_AARCH64_TLSIE_ADR_GOTTPREL_PAGE21", api.Env{H: v + 1<<40 + 0xABC, A: 1, P: 1<<40 + 0xFFC}, v, []uint32{0x90000007}, adrp)
	}
	for _, v := range []int{0, 8, 0x1000, 0xFF8, 0x12345678, -8, 1<<40 + 0x5A8} {
		m.puts("R_AARCH64_ADD_ABS_LO12_NC", api.Env{S: v, A: 0}, v, []uint32{0x91000021}, []uint32{0x91000021 | at(v, 11, 0, 10)})
		m.puts("R_AARCH64_LDST8_ABS_LO12_NC", api.Env{S: v, A: 0}, v, []uint32{0x39400041}, []uint32{0x39400041 | at(v, 11, 0, 10)})
		m.puts("R_AARCH64_LDST32_ABS_LO12_NC", api.Env{S: v, A: 0}, v, []uint32{0xB9400041}, []uint32{0xB9400041 | at(v, 11, 2, 10)})
		m.puts("R_AARCH64_LDST64_ABS_LO12_NC", api.Env{S: v, A: 0}, v, []uint32{0xF9400041}, []uint32{0xF9400041 | at(v, 11, 3, 10)})
		m.puts("R_AARCH64_LD64_GOT_LO12_NC", api.Env{G: v, A: 0}, v, []uint32{0xF97FFC41}, []uint32{0xF9400041 | at(v, 11, 3, 10)})
		m.puts("R_AARCH64_TLSIE_LD64_GOTTPREL_LO12_NC", api.Env{H: v, A: 0}, v, []uint32{0xF9400041}, []uint32{0xF9400041 | at(v, 11, 3, 10)})
		m.puts("R_AARCH64_TLSLE_ADD_TPREL_LO12_NC", api.Env{T: v, A: 0}, v, []uint32{0x91000021}, []uint32{0x91000021 | at(v, 11, 0, 10)})
	}
	m.puts("R_AARCH64_TLSLE_ADD_TPREL_HI12", api.Env{T: 0xABC123, A: 0x10}, 0xABC133, []uint32{0x91400021}, []uint32{0x91400021 | 0xABC<<10})
	m.bounds("R_AARCH64_TLSLE_ADD_TPREL_HI12", api.ErrRelRange, 1<<24, -1)
	m.bounds("R_AARCH64_LDST64_ABS_LO12_NC", api.ErrRelAlign, 1, 2, 4, 0xFFC)
	m.bounds("R_AARCH64_LDST32_ABS_LO12_NC", api.ErrRelAlign, 1, 2, 3)
	m.bounds("R_AARCH64_ADR_PREL_PG_HI21", api.ErrRelRange, 1<<32, -1<<32-4096)
	m.puts("R_AARCH64_ABS64", api.Env{S: 0x1122334455667788, A: 8}, 0x1122334455667790, []uint32{1, 2}, []uint32{0x55667790, 0x11223344})
	m.puts("R_AARCH64_ABS32", api.Env{S: 0x55667788, A: 8}, 0x55667790, []uint32{1}, []uint32{0x55667790})
	m.puts("R_AARCH64_NONE", env, 0, []uint32{7}, []uint32{7})
}

func TestX64(t *testing.T) {
	m := machineOf(t, "x64")
	for _, v := range near(32, 1) {
		bits := []uint32{uint32(v)}
		m.puts("R_X86_64_PC32", api.Env{S: 1<<40 + v, A: -4, P: 1<<40 - 4}, v, []uint32{0x55555555}, bits)
		m.puts("R_X86_64_PLT32", api.Env{S: 1<<40 + v, A: -4, P: 1<<40 - 4}, v, []uint32{0x55555555}, bits)
		m.puts("R_X86_64_GOTPCREL", api.Env{G: 1<<40 + v, A: -4, P: 1<<40 - 4}, v, []uint32{0x55555555}, bits)
		m.puts("R_X86_64_GOTTPOFF", api.Env{H: 1<<40 + v, A: -4, P: 1<<40 - 4}, v, []uint32{0x55555555}, bits)
		m.puts("R_X86_64_TPOFF32", api.Env{T: v, A: 0}, v, []uint32{0x55555555}, bits)
		m.puts("R_X86_64_32S", api.Env{S: v + 7, A: -7}, v, []uint32{0x55555555}, bits)
		m.puts("R_X86_64_32", api.Env{S: v & 0xFFFFFFFF}, v&0xFFFFFFFF, []uint32{0x55555555}, bits)
	}
	m.puts("R_X86_64_64", api.Env{S: -2, A: 1}, -1, []uint32{5, 6}, []uint32{0xFFFFFFFF, 0xFFFFFFFF})
	m.puts("R_X86_64_NONE", env, 0, []uint32{7}, []uint32{7})
	m.bounds("R_X86_64_PC32", api.ErrRelRange, 1<<31, -1<<31-1)
	m.bounds("R_X86_64_32S", api.ErrRelRange, 1<<31, 1<<32-1)
	m.bounds("R_X86_64_32", api.ErrRelRange, -1, 1<<32)
	m.bounds("R_X86_64_64", api.OK, far...)
}
