package targets_test

import (
	"bytes"
	"encoding/binary"
	"encoding/hex"
	"math/rand"
	"reflect"
	"slices"
	"testing"

	"dovetail/api"
	"dovetail/codec"
	"dovetail/step"
	"dovetail/targets"
)

// machine is a target with its codec; its forms are asked by their names.
type machine struct {
	t *testing.T
	d api.Desc
	c *codec.Codec
}

func machineOf(t *testing.T, name string) machine {
	t.Helper()
	d := desc(t, name)
	c, e := codec.New(d)
	if e != api.OK {
		t.Fatal(name, e)
	}
	return machine{t, d, c}
}

func (m machine) insn(form string, vals ...int) api.Insn {
	m.t.Helper()
	n := slices.IndexFunc(m.d.Forms, func(f api.Form) bool { return f.Name == form })
	if n < 0 {
		m.t.Fatal(m.d.Name, "has no", form)
	}
	return api.Insn{Form: n, Vals: vals}
}

func (m machine) bytes(form string, vals ...int) []byte {
	m.t.Helper()
	b, e := m.c.Encode(m.insn(form, vals...))
	if e != api.OK {
		m.t.Fatal(m.d.Name, form, vals, e)
	}
	return b
}

// is tells whether an instruction has these bytes, and they are it.
func (m machine) is(want string, form string, vals ...int) {
	m.t.Helper()
	b := m.bytes(form, vals...)
	if hex.EncodeToString(b) != want {
		m.t.Errorf("%s: %s %v: %x, not %s", m.d.Name, form, vals, b, want)
	}
	in, n, e := m.c.Decode(b)
	if x := m.insn(form, vals...); in.Form != x.Form || !slices.Equal(in.Vals, x.Vals) || n != len(b) || e != api.OK {
		m.t.Errorf("%s: %s: %v %d %v", m.d.Name, want, in, n, e)
	}
}

func TestBytesRv64(t *testing.T) {
	m := machineOf(t, "rv64")
	m.is("93005000", "addi", 1, 0, 5)
	m.is("37c50100", "lui", 10, 0x1c)
	m.is("ef004000", "jal", 1, 4)
	m.is("e3889dfe", "beq", 27, 9, -16)
	m.is("83b08200", "ld", 1, 8, 5)
	m.is("23b41200", "sd", 1, 8, 5)
	m.is("33857502", "mul", 10, 11, 7)
	m.is("13d51540", "srai", 10, 11, 1)
	m.is("73000000", "ecall")
	m.is("73001000", "ebreak")
	m.is("0f000000", "fence")
	m.is("d3f12002", "fadd.d", 3, 1, 2)
	m.is("0100", "c.nop")
	m.is("8610", "c.slli", 1, 33)
	m.is("8280", "c.jr", 1)
	m.is("0290", "c.ebreak")
	m.is("2e85", "c.mv", 10, 11)
	m.is("3971", "c.addi16sp", -64)
	m.is("2800", "c.addi4spn", 10, 8)
	m.is("f5bf", "c.j", -4)
}

func TestBytesA64(t *testing.T) {
	m := machineOf(t, "a64")
	m.is("200080d2", "movz", 0, 1, 0)
	m.is("e00700f9", "str.s", 0, 8)
	m.is("2000028b", "add", 0, 1, 2)
	m.is("ff4300d1", "subi.ss", 16)
	m.is("ff030091", "addi.ss", 0)
	m.is("c0035fd6", "ret", 30)
	m.is("010000d4", "svc", 0)
	m.is("1f2003d5", "nop")
	m.is("ffffff17", "b", -4)
	m.is("00000094", "bl", 0)
	m.is("40d03bd5", "mrs", 0)
	m.is("2028621e", "fadd", 0, 1, 2)
}

func TestBytesX64(t *testing.T) {
	m := machineOf(t, "x64")
	m.is("4889c3", "mov", 3, 0)
	m.is("48c7c005000000", "movi", 0, 5)
	m.is("48b800f2052a01000000", "movabs", 0, 5000000000)
	m.is("4901c9", "add", 9, 1)
	m.is("4c0fafd3", "imul", 10, 3)
	m.is("488b442408", "lds8", 0, 8)
	m.is("4c89a508000000", "st", 12, 5, 8)
	m.is("488d1510000000", "leap", 2, 16)
	m.is("48031510000000", "addp", 2, 16)
	m.is("64488b0425f8ffffff", "ldfs", 0, -8)
	m.is("4154", "push", 12)
	m.is("4059", "pop", 1)
	m.is("e800000000", "call", 0)
	m.is("41ffd3", "callr", 11)
	m.is("40ffe7", "jmpr", 7)
	m.is("c3", "ret")
	m.is("eb00", "jmp8", 0)
	m.is("e900000000", "jmp", 0)
	m.is("7ef0", "jle8", -16)
	m.is("49f7df", "neg", 15)
	m.is("48c1e63f", "shl", 6, 63)
	m.is("0f05", "syscall")
	m.is("90", "nop")
	m.is("cc", "int3")
	m.is("f4", "hlt")
	m.is("f20f58df", "addsd", 3, 7)
	m.is("480fb64301", "ldb8", 0, 3, 1)
	m.is("4c884b01", "stb8", 9, 3, 1)
	m.is("44894c2401", "stls8", 9, 1)
	m.is("418b8601000000", "ldl", 0, 14, 1)
	m.is("4983f8ff", "cmpi8", 8, -1)
	m.is("0f8100000000", "jno", 0)
}

// value is some value of a form's operand, mostly one at the end of what its class has.
func value(r *rand.Rand, m machine, c api.Class, class int) int {
	for {
		v := 0
		switch r.Intn(3) {
		case 0:
			v = r.Intn(64) - 32
		case 1:
			v = (1<<r.Intn(c.Bits+c.Shift+1) - r.Intn(2)<<c.Shift) * (1 - 2*r.Intn(2))
		case 2:
			v = int(r.Uint64()) >> r.Intn(64)
		}
		v = v >> c.Shift << c.Shift
		if m.c.Has(class, v) {
			return v
		}
	}
}

// TestFormsAndBack encodes and decodes each form of the three with many values.
func TestFormsAndBack(t *testing.T) {
	r := rand.New(rand.NewSource(10))
	for _, name := range known {
		m := machineOf(t, name)
		for n, f := range m.d.Forms {
			for range 40 {
				in := api.Insn{Form: n}
				for _, a := range f.Args {
					in.Vals = append(in.Vals, value(r, m, m.d.Classes[a.Class], a.Class))
				}
				b, e := m.c.Encode(in)
				back, k, e2 := m.c.Decode(append(slices.Clone(b), 0, 0))
				if e != api.OK || e2 != api.OK || k != len(b) || back.Form != n || !slices.Equal(back.Vals, in.Vals) {
					t.Fatal(name, f.Name, in, b, e, back, k, e2)
				}
			}
		}
	}
}

// TestNops holds the nums nop and widenop against the forms that do nothing.
func TestNops(t *testing.T) {
	for name, nops := range map[string][]struct {
		num, size, form string
		vals            []int
	}{
		"rv64": {{"nop", "nopsize", "c.nop", nil}, {"widenop", "widesize", "addi", []int{0, 0, 0}}},
		"a64":  {{"nop", "nopsize", "nop", nil}},
		"x64":  {{"nop", "nopsize", "nop", nil}},
	} {
		m := machineOf(t, name)
		for _, x := range nops {
			n, _ := targets.Num(m.d, x.num)
			size, _ := targets.Num(m.d, x.size)
			if b := binary.LittleEndian.AppendUint64(nil, uint64(n))[:size]; !bytes.Equal(b, m.bytes(x.form, x.vals...)) {
				t.Error(name, x, b)
			}
		}
	}
}

// TestMarks holds the nums that tell relocations against the relocations' own.
func TestMarks(t *testing.T) {
	for name, marks := range map[string]map[string]string{
		"rv64": {"abs32": "R_RISCV_32", "abs64": "R_RISCV_64", "align": "R_RISCV_ALIGN", "relaxed": "R_RISCV_RELAX"},
		"a64":  {"abs32": "R_AARCH64_ABS32", "abs64": "R_AARCH64_ABS64"},
		"x64":  {"abs32": "R_X86_64_32", "abs64": "R_X86_64_64"},
	} {
		d := desc(t, name)
		for num, rel := range marks {
			n, _ := targets.Num(d, num)
			i := slices.IndexFunc(d.Rels, func(r api.Rel) bool { return r.Name == rel })
			if i < 0 || d.Rels[i].Num != n {
				t.Error(name, num, n, rel)
			}
		}
	}
}

// The addresses of the programs' code and data.
const (
	codeAt = 0x10000
	dataAt = 0x12000
)

// run is what a machine does with a program, which may read and write the data "hi".
func (m machine) run(code ...[]byte) api.Trace {
	m.t.Helper()
	c := api.Cpu{Pc: codeAt, Flags: make([]bool, len(m.d.Flags))}
	for _, f := range m.d.Files {
		c.Files = append(c.Files, make([]uint64, f.Count))
	}
	s, e := step.New(m.d, c, []api.Region{
		{At: codeAt, Perm: api.PermX, Bytes: bytes.Join(code, nil)},
		{At: dataAt, Perm: api.PermR | api.PermW, Bytes: []byte("hi")}})
	if e != api.OK {
		m.t.Fatal(m.d.Name, e)
	}
	return s.Run(100)
}

func (m machine) does(want api.Trace, code ...[]byte) {
	m.t.Helper()
	if got := m.run(code...); !reflect.DeepEqual(got, want) {
		m.t.Error(m.d.Name, got, want)
	}
}

// hi is the trace of a program that writes hi and exits with 5.
func hi(steps int) api.Trace {
	return api.Trace{Events: []api.Event{{Fd: 1, Bytes: []byte("hi")}}, Kind: api.EndExit, Code: 5, Steps: steps}
}

func TestRunRv64(t *testing.T) {
	m := machineOf(t, "rv64")
	m.does(hi(8), m.bytes("addi", 17, 0, 64), m.bytes("c.li", 10, 1), m.bytes("lui", 11, dataAt>>12), m.bytes("c.li", 12, 2), m.bytes("ecall"),
		m.bytes("addi", 17, 0, 93), m.bytes("addi", 10, 0, 5), m.bytes("ecall"))
	m.does(api.Trace{Kind: api.DidStore, At: codeAt, Steps: 2}, m.bytes("lui", 11, codeAt>>12), m.bytes("sd", 0, 0, 11))
	m.does(api.Trace{Kind: api.DidTrap, Code: 2, Steps: 1}, m.bytes("fadd.d", 0, 0, 0))
	m.does(api.Trace{Kind: api.DidTrap, Code: 2, Steps: 1}, m.bytes("fld", 0, 0, 0))
	m.does(api.Trace{Kind: api.DidTrap, Code: 1, Steps: 2}, m.bytes("c.nop"), m.bytes("c.ebreak"))
}

func TestRunA64(t *testing.T) {
	m := machineOf(t, "a64")
	m.does(hi(8), m.bytes("movz", 8, 64, 0), m.bytes("movz", 0, 1, 0), m.bytes("adrp", 1, (dataAt-codeAt)>>12), m.bytes("movz", 2, 2, 0), m.bytes("svc", 0),
		m.bytes("movz", 8, 93, 0), m.bytes("movz", 0, 5, 0), m.bytes("svc", 0))
	m.does(api.Trace{Kind: api.DidStore, At: codeAt, Steps: 2}, m.bytes("adrp", 1, 0), m.bytes("strb", 0, 1, 0))
	m.does(api.Trace{Kind: api.DidTrap, Code: 2, Steps: 1}, m.bytes("fadd", 0, 0, 0))
	m.does(api.Trace{Kind: api.DidTrap, Code: 1, Steps: 2}, m.bytes("nop"), m.bytes("brk", 9))
}

func TestRunX64(t *testing.T) {
	m := machineOf(t, "x64")
	m.does(hi(8), m.bytes("movi", 0, 1), m.bytes("movi", 7, 1), m.bytes("movi", 6, dataAt), m.bytes("movi", 2, 2), m.bytes("syscall"),
		m.bytes("movi", 0, 60), m.bytes("movi", 7, 5), m.bytes("syscall"))
	m.does(api.Trace{Kind: api.DidStore, At: codeAt, Steps: 2}, m.bytes("movi", 3, codeAt), m.bytes("stb8", 0, 3, 0))
	m.does(api.Trace{Kind: api.DidTrap, Code: 2, Steps: 1}, m.bytes("addsd", 0, 0))
	m.does(api.Trace{Kind: api.DidTrap, Code: 3, Steps: 2}, m.bytes("nop"), m.bytes("hlt"))
}
