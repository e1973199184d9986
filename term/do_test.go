package term_test

import (
	"math"
	"reflect"
	"slices"
	"strconv"
	"testing"

	"dovetail/api"
	"dovetail/mem"
)

// P8.3

// stored is what becomes of the regions of toy's tests when some bytes are put from an address on.
func stored(at uint64, put ...byte) func(l []api.Region) {
	return func(l []api.Region) {
		for _, r := range l {
			for n, b := range put {
				if k := at + uint64(n) - r.At; k < uint64(len(r.Bytes)) {
					r.Bytes[k] = b
				}
			}
		}
	}
}

// changed is a state of toy behind an instruction that changes something.
func changed(changes ...func(c *api.Cpu)) api.Cpu {
	c := state()
	c.Pc += size
	for _, change := range changes {
		change(&c)
	}
	return c
}

// register is a change of a register.
func register(file, n int, v uint64) func(c *api.Cpu) {
	return func(c *api.Cpu) { c.Files[file][n] = v }
}

func flag(n int, v bool) func(c *api.Cpu) { return func(c *api.Cpu) { c.Flags[n] = v } }

func pc(v uint64) func(c *api.Cpu) { return func(c *api.Cpu) { c.Pc = v } }

// does holds what toy's instruction does with some effects, of the usual state and memory.
func does(t *testing.T, effects string, want api.Cpu, did api.Did, stores ...func(l []api.Region)) {
	t.Helper()
	m, old := memory(), state()
	c, got, e := made(toy(effects)).Do(all(), size, old, m)
	if e != api.OK || got != did || !same(c, want) {
		t.Errorf("%s: %v, %v, %v, not %v, %v", effects, c, got, e, want, did)
	}
	after := regions()
	for _, s := range stores {
		s(after)
	}
	if !sameRegions(m.Regions(), after) {
		t.Errorf("%s: memory is %v, not %v", effects, m.Regions(), after)
	}
	if !same(old, state()) {
		t.Errorf("%s: the state that was handed in is %v", effects, old)
	}
}

// next holds that the instruction after it comes, behind some changes of the state.
func next(t *testing.T, effects string, changes ...func(c *api.Cpu)) {
	t.Helper()
	does(t, effects, changed(changes...), api.Did{})
}

// ends holds that state and memory stay, for something has ended all.
func ends(t *testing.T, effects string, did api.Did) {
	t.Helper()
	does(t, effects, state(), did)
}

func noLoad(at uint64) api.Did { return api.Did{Kind: api.DidLoad, At: at} }

func noStore(at uint64) api.Did { return api.Did{Kind: api.DidStore, At: at} }

func trap(n int) api.Did { return api.Did{Kind: api.DidTrap, Trap: n} }

// TestExample: that of the chapter.
func TestExample(t *testing.T) {
	d := read(`(isa rv64 word) (file x 32 64 zero 0) (class r reg x 5) (class i12 sgn 12)
(form jalr "jalr d, i(a)" ((d r) (i i12) (a r)) (i a .000 d .1100111) ((set (x d) next) (jump (and (add (x a) (imm i 64)) (c 64 -2)))))`)
	p := made(d)
	c := p.Start()
	c.Pc, c.Files[0][1] = 100, 7
	n, did, e := p.Do(api.Insn{Vals: []int{1, 0, 1}}, 4, c, memory())
	want := p.Start()
	want.Pc, want.Files[0][1] = 6, 104
	if e != api.OK || did != (api.Did{}) || !same(n, want) {
		t.Error(n, did, e)
	}
}

func TestEffects(t *testing.T) {
	next(t, "")
	next(t, "(set (x d) (c 64 -1))", register(fileX, 1, top))
	next(t, "(set (x 3) (imm i 64))", register(fileX, 3, below0(-3)))
	next(t, "(set (y e) (ex 7 0 (x a)))", register(fileY, 9, 72))
	next(t, "(set (y 0) (imm i 8))", register(fileY, 0, 253))
	next(t, "(set (y 15) (c 8 1))", register(fileY, 15, 1))
	next(t, "(set (v 0) (flag n))", register(fileV, 0, 0))
	next(t, "(set (w 1) (c 33 -1))", register(fileW, 1, 1<<33-1))
	next(t, "(set (flag n) (c 1 1))", flag(1, true))
	next(t, "(set (flag z) (c 1 0))", flag(0, false))
	next(t, "(set (flag z) (c 1 1)) (set (flag n) (c 1 0))")
	next(t, "(jump (c 64 -2))", pc(top-1))
	next(t, "(jump pc)", pc(1000))
	next(t, "(set (x d) next) (jump (add pc (imm t 64)))", register(fileX, 1, 1006), pc(998))
	does(t, "(sys)", changed(), api.Did{Kind: api.DidSys})
	does(t, "(sys) (sys)", changed(), api.Did{Kind: api.DidSys})
	does(t, "(sys) (set (x d) (c 64 3)) (jump (c 64 8))", changed(register(fileX, 1, 3), pc(8)), api.Did{Kind: api.DidSys})
	for n := 1; n <= 15; n++ {
		ends(t, "(trap "+strconv.Itoa(n)+")", trap(n))
	}
}

// TestSize: Pc goes on by as many bytes as the instruction is told to have, modulo 2^64.
func TestSize(t *testing.T) {
	p := made(toy("(set (x d) next)"))
	for _, at := range []uint64{0, 1, 1 << 63, top - 1, top} {
		for _, n := range []int{0, 1, 2, 15, 16, -1, math.MaxInt, math.MinInt} {
			old := state()
			old.Pc = at
			c, did, e := p.Do(all(), n, old, memory())
			want := changed(register(fileX, 1, at+uint64(n)), pc(at+uint64(n)))
			if e != api.OK || did != (api.Did{}) || !same(c, want) {
				t.Error(at, n, c, did, e)
			}
		}
	}
}

// TestOldState: effects are reckoned over the old state, whatever the ones ahead set.
func TestOldState(t *testing.T) {
	next(t, "(set (x d) (x a)) (set (x a) (x d))", register(fileX, 1, 72), register(fileX, 2, 64))
	next(t, "(set (x d) (c 64 1)) (set (flag z) (eq (x d) (c 64 1)))", register(fileX, 1, 1), flag(0, false))
	next(t, "(set (flag z) (flag n)) (set (flag n) (flag z))", flag(0, false), flag(1, true))
	next(t, "(set (flag z) (c 1 0)) (when (flag z) (set (x d) (c 64 1)))", flag(0, false), register(fileX, 1, 1))
	next(t, "(jump (c 64 50)) (set (x d) next) (set (x a) pc)", pc(50), register(fileX, 1, 1006), register(fileX, 2, 1000))
	next(t, "(set (x d) (c 64 50)) (jump (x d))", pc(64), register(fileX, 1, 50))
	next(t, "(set (y e) (add (y 9) (c 8 1))) (set (y 8) (y 9)) (set (y 10) (y e))", register(fileY, 9, 0xAA), register(fileY, 8, 0xA9), register(fileY, 10, 0xA9))
}

// TestOldMemory: so they are over the old memory.
func TestOldMemory(t *testing.T) {
	does(t, "(st 8 (x d) (c 8 99)) (set (x 3) (ld 64 (x d)))", changed(register(fileX, 3, 0x0807060504030201)), api.Did{}, stored(64, 99))
	does(t, "(st 32 (c 64 64) (ld 32 (c 64 68))) (st 32 (c 64 68) (ld 32 (c 64 64)))", changed(), api.Did{}, stored(64, 5, 6, 7, 8, 1, 2, 3, 4))
	does(t, "(set (x d) (c 64 68)) (st 8 (x d) (c 8 99))", changed(register(fileX, 1, 68)), api.Did{}, stored(64, 99))
	does(t, "(st 8 (x d) (c 8 0)) (when (eq (ld 8 (x d)) (c 8 1)) (set (flag n) (c 1 1)))", changed(flag(1, true)), api.Did{}, stored(64, 0))
}

// TestSetTwice: of what is set twice the last counts.
func TestSetTwice(t *testing.T) {
	next(t, "(set (x d) (c 64 1)) (set (x d) (c 64 2))", register(fileX, 1, 2))
	next(t, "(set (x 1) (c 64 1)) (set (x d) (c 64 2)) (set (x 1) (c 64 3))", register(fileX, 1, 3))
	next(t, "(set (x d) (c 64 1)) (set (x d) (x d))", register(fileX, 1, 64))
	next(t, "(set (flag n) (c 1 1)) (set (flag n) (c 1 0))")
	next(t, "(set (flag n) (c 1 0)) (set (flag n) (c 1 1))", flag(1, true))
	next(t, "(jump (c 64 1)) (jump (c 64 2))", pc(2))
	next(t, "(jump (c 64 1)) (jump next)")
	next(t, "(jump (c 64 2)) (when (flag n) (jump (c 64 1)))", pc(2))
	next(t, "(jump (c 64 2)) (when (flag z) (jump (c 64 1)))", pc(1))
	next(t, "(when (flag z) (set (x d) (c 64 1))) (set (x d) (c 64 2))", register(fileX, 1, 2))
	does(t, "(st 32 (c 64 64) (c 32 -1)) (st 8 (c 64 65) (c 8 0)) (st 16 (c 64 66) (c 16 257))", changed(), api.Did{}, stored(64, 255, 0, 1, 1))
	does(t, "(st 8 (c 64 65) (c 8 0)) (st 32 (c 64 64) (c 32 -1))", changed(), api.Did{}, stored(64, 255, 255, 255, 255))
}

// TestZero: a file's Zero stays as it was, and counts as 0.
func TestZero(t *testing.T) {
	next(t, "(set (x 0) (c 64 9))")
	next(t, "(set (v 2) (c 1 0))")
	next(t, "(set (x 3) (x 0))", register(fileX, 3, 0))
	next(t, "(set (x 0) (c 64 9)) (set (x 3) (x 0))", register(fileX, 3, 0))
	next(t, "(set (y 0) (c 8 9)) (set (w 0) (c 33 9))", register(fileY, 0, 9), register(fileW, 0, 9))
	// What is set to it is reckoned all the same.
	ends(t, "(set (x 0) (ld 64 (c 64 8)))", noLoad(8))
	p := made(toy("(set (x d) (add (x a) (c 64 1))) (set (flag n) (eq (x a) (c 64 0)))"))
	in := all()
	in.Vals[0], in.Vals[1] = 0, 0
	if c, did, e := p.Do(in, size, state(), memory()); e != api.OK || did != (api.Did{}) || !same(c, changed(flag(1, true))) {
		t.Error(c, did, e)
	}
}

func TestWhen(t *testing.T) {
	next(t, "(when (flag z))")
	next(t, "(when (flag z) (set (x d) (c 64 1)) (set (x a) (c 64 2)))", register(fileX, 1, 1), register(fileX, 2, 2))
	next(t, "(when (flag n) (set (x d) (c 64 1)) (set (x a) (c 64 2)))")
	next(t, "(when (flag n) (trap 1) (jump (ld 64 (c 64 0))) (st 8 (c 64 0) (c 8 0)) (sys))")
	next(t, "(when (flag z) (when (flag n) (set (x d) (c 64 1))) (when (not (flag n)) (set (x a) (c 64 2)))) (set (x 3) (c 64 3))", register(fileX, 2, 2), register(fileX, 3, 3))
	next(t, "(when (c 1 -1) (jump (c 64 4)))", pc(4))
	does(t, "(when (flag z) (sys) (st 8 (x d) (c 8 77)))", changed(), api.Did{Kind: api.DidSys}, stored(64, 77))
	ends(t, "(when (flag z) (set (x d) (c 64 1)) (trap 3))", trap(3))
	ends(t, "(when (ex 0 0 (ld 8 (c 64 5))) (trap 3))", noLoad(5))
	ends(t, "(when (flag z) (when (flag z) (jump (ld 64 (c 64 6)))))", noLoad(6))
}

func TestStores(t *testing.T) {
	does(t, "(st 8 (x d) (imm i 8))", changed(), api.Did{}, stored(64, 253))
	does(t, "(st 16 (x d) (c 16 513))", changed(), api.Did{}, stored(64, 1, 2))
	does(t, "(st 32 (c 64 65) (c 32 513))", changed(), api.Did{}, stored(65, 1, 2, 0, 0))
	does(t, "(st 64 (x d) (x 3))", changed(), api.Did{}, stored(64, 1, 0, 0, 0, 0, 0, 0, 128))
	does(t, "(st 32 (c 64 76) (c 32 -1))", changed(), api.Did{}, stored(76, 255, 255, 255, 255))
	does(t, "(st 32 (c 64 -4) (c 32 -1))", changed(), api.Did{}, stored(top-3, 255, 255, 255, 255))
	does(t, "(st 8 (c 64 -1) (c 8 7))", changed(), api.Did{}, stored(top, 7))
	does(t, "(st 64 (add (x a) (c 64 -8)) (c 64 0)) (set (flag n) (c 1 1))", changed(flag(1, true)), api.Did{}, stored(64, 0, 0, 0, 0, 0, 0, 0, 0))
	// What was written may lie in some regions.
	m := memoryOf([]api.Region{{At: 10, Perm: api.PermW, Bytes: []byte{1, 2}}, {At: 12, Perm: 7, Bytes: []byte{3, 4}}})
	c, did, e := made(toy("(st 32 (c 64 10) (c 32 -1))")).Do(all(), size, state(), m)
	want := []api.Region{{At: 10, Perm: api.PermW, Bytes: []byte{255, 255}}, {At: 12, Perm: 7, Bytes: []byte{255, 255}}}
	if e != api.OK || did != (api.Did{}) || !same(c, changed()) || !sameRegions(m.Regions(), want) {
		t.Error(c, did, e, m.Regions())
	}
}

// TestLoadEndsAll: the first load that isn't there, in the order in which all is reckoned; its address, not that of the byte that isn't there.
func TestLoadEndsAll(t *testing.T) {
	ends(t, "(set (x d) (ld 64 (c 64 8)))", noLoad(8))
	ends(t, "(set (x d) (ld 64 (c 64 69)))", noLoad(69))
	ends(t, "(set (x d) (zx 64 (ld 8 (c 64 76))))", noLoad(76))
	ends(t, "(set (x d) (zx 64 (ld 8 (c 64 80))))", noLoad(80))
	ends(t, "(set (x d) (ld 64 (c 64 -4)))", noLoad(top-3))
	ends(t, "(set (x d) (zx 64 (ld 16 (c 64 -1))))", noLoad(top))
	ends(t, "(set (x d) (add (ld 64 (c 64 1)) (ld 64 (c 64 2))))", noLoad(1))
	ends(t, "(set (x d) (add (ld 64 (c 64 64)) (ld 64 (c 64 2))))", noLoad(2))
	ends(t, "(set (x d) (shl (ld 64 (c 64 1)) (ld 64 (c 64 2))))", noLoad(1))
	ends(t, "(set (x d) (ld 64 (zx 64 (ld 8 (c 64 3)))))", noLoad(3))
	ends(t, "(set (x d) (ld 64 (zx 64 (ld 8 (c 64 66)))))", noLoad(3))
	ends(t, "(set (x d) (if (ex 0 0 (ld 8 (c 64 1))) (ld 64 (c 64 2)) (ld 64 (c 64 3))))", noLoad(1))
	ends(t, "(set (x d) (if (flag z) (ld 64 (c 64 2)) (ld 64 (c 64 3))))", noLoad(2))
	ends(t, "(set (x d) (if (flag n) (ld 64 (c 64 2)) (ld 64 (c 64 3))))", noLoad(3))
	next(t, "(set (x d) (if (flag n) (ld 64 (c 64 2)) (c 64 3)))", register(fileX, 1, 3))
	ends(t, "(set (flag n) (ex 0 0 (ld 8 (c 64 4))))", noLoad(4))
	ends(t, "(jump (ld 64 (c 64 4)))", noLoad(4))
	ends(t, "(st 64 (ld 64 (c 64 1)) (ld 64 (c 64 2)))", noLoad(1))
	ends(t, "(st 64 (c 64 64) (ld 64 (c 64 2)))", noLoad(2))
	// What came ahead of it isn't done.
	ends(t, "(set (x d) (c 64 1)) (set (flag z) (c 1 0)) (st 8 (x d) (c 8 9)) (jump (c 64 2)) (sys) (set (y e) (ld 8 (c 64 5)))", noLoad(5))
	ends(t, "(set (x d) (ld 64 (c 64 6))) (set (x a) (ld 64 (c 64 7)))", noLoad(6))
	ends(t, "(set (y e) (ld 8 (c 64 6))) (trap 1)", noLoad(6))
	// A store that may not be done is asked about behind all that is reckoned.
	ends(t, "(st 8 (c 64 1) (c 8 0)) (set (y e) (ld 8 (c 64 6)))", noLoad(6))
	ends(t, "(st 8 (c 64 1) (ld 8 (c 64 6)))", noLoad(6))
}

func TestTrapEndsAll(t *testing.T) {
	ends(t, "(trap 1) (trap 2)", trap(1))
	ends(t, "(when (flag n) (trap 1)) (trap 2)", trap(2))
	ends(t, "(trap 1) (set (x d) (ld 64 (c 64 0)))", trap(1))
	ends(t, "(set (x d) (c 64 1)) (set (flag z) (c 1 0)) (st 8 (x d) (c 8 9)) (jump (c 64 2)) (sys) (trap 15)", trap(15))
	ends(t, "(trap 4) (set (x d) (c 64 1)) (st 8 (x d) (c 8 9)) (sys)", trap(4))
	// A store that may not be done is asked about behind all that is reckoned.
	ends(t, "(st 8 (c 64 1) (c 8 0)) (trap 5)", trap(5))
}

// TestStoreEndsAll: the first store that memory doesn't take; those ahead of it aren't done either.
func TestStoreEndsAll(t *testing.T) {
	ends(t, "(st 8 (c 64 63) (c 8 9))", noStore(63))
	ends(t, "(st 8 (c 64 72) (c 8 9))", noStore(72))
	ends(t, "(st 8 (c 64 80) (c 8 9))", noStore(80))
	ends(t, "(st 16 (c 64 71) (c 16 9))", noStore(71))
	ends(t, "(st 64 (c 64 76) (c 64 9))", noStore(76))
	ends(t, "(st 64 (c 64 -4) (c 64 9))", noStore(top-3))
	ends(t, "(st 16 (c 64 -1) (c 16 9))", noStore(top))
	ends(t, "(st 8 (c 64 1) (c 8 9)) (st 8 (c 64 2) (c 8 9))", noStore(1))
	ends(t, "(st 8 (c 64 64) (c 8 9)) (st 8 (c 64 3) (c 8 9)) (st 8 (c 64 65) (c 8 9)) (st 8 (c 64 2) (c 8 9))", noStore(3))
	ends(t, "(st 8 (c 64 64) (c 8 9)) (set (x d) (c 64 1)) (set (flag z) (c 1 0)) (jump (c 64 2)) (sys) (st 64 (x a) (c 64 5))", noStore(72))
	ends(t, "(when (flag z) (st 8 (c 64 1) (c 8 9)))", noStore(1))
}

func TestDoErrors(t *testing.T) {
	for _, effects := range []string{"", many, "(trap 1)", "(set (x d) (ld 64 (c 64 0)))"} {
		p, m := made(toy(effects)), memory()
		refuses := func(in api.Insn, c api.Cpu, want api.Errno) {
			t.Helper()
			n, did, e := p.Do(in, size, c, m)
			if e != want || did != (api.Did{}) || n.Pc != 0 || len(n.Files) != 0 || len(n.Flags) != 0 {
				t.Error(in, c, n, did, e, want)
			}
			if !sameRegions(m.Regions(), regions()) {
				t.Error("memory changed", in, c)
			}
		}
		for _, in := range notUsable() {
			refuses(in, state(), api.ErrInsn)
			for _, c := range notSound() {
				refuses(in, c, api.ErrInsn)
			}
		}
		for _, c := range notSound() {
			refuses(all(), c, api.ErrCpu)
		}
	}
}

// TestDoNothing: a description may have neither files nor flags nor operands.
func TestDoNothing(t *testing.T) {
	p := made(read(`(isa none word) (form nop "nop" () (.00000000) ())`))
	for _, c := range []api.Cpu{{Pc: 5}, {Pc: 5, Files: [][]uint64{}, Flags: []bool{}}, p.Start()} {
		n, did, e := p.Do(api.Insn{}, 1, c, memory())
		if e != api.OK || did != (api.Did{}) || !same(n, api.Cpu{Pc: c.Pc + 1}) {
			t.Error(n, did, e)
		}
	}
	if _, _, e := p.Do(api.Insn{}, 1, state(), memory()); e != api.ErrCpu {
		t.Error(e)
	}
	if _, _, e := made(read("(isa none word)")).Do(api.Insn{}, 1, api.Cpu{}, memory()); e != api.ErrInsn {
		t.Error(e)
	}
}

// endings are effects that come to each of a call's ends.
var endings = []string{"", many, "(trap 1)", "(set (x d) (ld 64 (c 64 0)))", "(st 8 (c 64 0) (c 8 0))", "(set (x d) next) (sys)"}

// TestDoNew: an answer is new memory, of which no two lists share any.
func TestDoNew(t *testing.T) {
	for _, effects := range endings {
		p, old := made(toy(effects)), roomy(state())
		c, _, _ := p.Do(all(), size, old, memory())
		want := roomy(c)
		spoil(reflect.ValueOf(&old).Elem())
		if !same(c, want) {
			t.Error("shares memory with an argument", effects)
		}
		old = roomy(state())
		d, _, _ := p.Do(all(), size, old, memory())
		for n := range d.Files {
			before := roomy(d)
			spoil(reflect.ValueOf(&d.Files[n]).Elem())
			for k := range d.Files {
				if k != n && !slices.Equal(d.Files[k], before.Files[k]) {
					t.Error("lists share memory", effects, n, k)
				}
			}
		}
		spoil(reflect.ValueOf(&d).Elem())
		if !sameRoom(old, roomy(state())) || !same(c, want) {
			t.Error("shares memory", effects)
		}
	}
}

// TestDoChangesNothing that is handed in, spare room included, but the memory.
func TestDoChangesNothing(t *testing.T) {
	for _, effects := range endings {
		p := made(toy(effects))
		for _, in := range append(notUsable(), all()) {
			for _, c := range append(notSound(), state()) {
				in, c := roomy(in), roomy(c)
				inBefore, cBefore := roomy(in), roomy(c)
				p.Do(in, size, c, memory())
				if !sameRoom(in, inBefore) || !sameRoom(c, cBefore) {
					t.Error(effects, in, c)
				}
			}
		}
	}
}

// TestDoDeep: effects may be nested deep, and many.
func TestDoDeep(t *testing.T) {
	d := toy("")
	deep := api.Term{Op: api.OpSetFlag, A: 1, Kids: []api.Term{{Op: api.OpConst, W: 1, A: 1}}}
	for range 30000 {
		deep = api.Term{Op: api.OpWhen, Kids: []api.Term{{Op: api.OpFlag}, deep}}
	}
	d.Forms[0].Sem = append(d.Forms[0].Sem, deep)
	for n := range 3000 {
		at := api.Term{Op: api.OpConst, W: 64, A: 64 + n%8}
		d.Forms[0].Sem = append(d.Forms[0].Sem, api.Term{Op: api.OpStore, W: 8, Kids: []api.Term{at, {Op: api.OpConst, W: 8, A: n / 8}}})
	}
	m := memory()
	c, did, e := made(d).Do(all(), size, state(), m)
	if v, _ := m.Load(64, 8); e != api.OK || did != (api.Did{}) || !same(c, changed(flag(1, true))) || v != 0x7676767676767676 {
		t.Error(c.Flags, did, e, v)
	}
}

// TestDoOneAfterAnother: a state that Do answers can be handed in, as can the memory it has changed.
func TestDoOneAfterAnother(t *testing.T) {
	p := made(toy("(st 8 (x d) (add (ld 8 (x d)) (c 8 1))) (set (x d) (add (x d) (c 64 1))) (set (x 3) (zx 64 (ld 8 (x d)))) (jump (add pc (c 64 1)))"))
	c, m := state(), memory()
	for n := range 8 {
		var did api.Did
		var e api.Errno
		c, did, e = p.Do(all(), size, c, m)
		if e != api.OK || did != (api.Did{}) || c.Pc != 1001+uint64(n) || c.Files[fileX][3] != 1+uint64(n) || c.Files[fileX][1] != 65+uint64(n) {
			t.Fatal(n, c, did, e)
		}
	}
	if v, _ := m.Load(64, 8); v != 0x0908070605040302 {
		t.Errorf("%#x", v)
	}
	before := roomy(c)
	if c, did, e := p.Do(all(), size, c, m); e != api.OK || did != noStore(72) || !same(c, before) {
		t.Error(c, did, e)
	}
}

// TestDoAnyArguments: no call panics, and each answers the same when asked again of a memory with which the same was done.
func TestDoAnyArguments(t *testing.T) {
	asked := func() []any {
		var out []any
		for _, effects := range endings {
			p := made(toy(effects))
			for _, m := range []*mem.Memory{memory(), memoryOf(nil)} {
				for _, n := range []int{0, 1, -1, 15, math.MaxInt, math.MinInt} {
					for _, in := range append(notUsable(), all()) {
						for _, c := range append(notSound(), state(), p.Start()) {
							c, did, e := p.Do(in, n, c, m)
							out = append(out, c, did, e)
						}
					}
				}
				out = append(out, m.Regions())
			}
		}
		return out
	}
	if !reflect.DeepEqual(asked(), asked()) {
		t.Error("other answers when asked again")
	}
}
