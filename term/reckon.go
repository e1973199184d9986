package term

import (
	"dovetail/api"
	"dovetail/bvec"
	"dovetail/mem"
)

// The width of addresses, and the bits of a byte.
const (
	addressWidth = 64
	byteBits     = 8
)

// reckoning is what an instruction's terms are reckoned over: the instruction is usable, the state sound, and both stay as they are, with the memory, till all is reckoned.
type reckoning struct {
	desc   *api.Desc
	in     api.Insn
	size   int
	old    api.Cpu
	memory *mem.Memory
}

// caught reckons something, and says whether that came to its end; if not, what it was ended with, by a panic.
func caught(reckon func()) (did api.Did, whole bool) {
	defer func() { did, _ = recover().(api.Did) }()
	reckon()
	return api.Did{}, true
}

// bits is what a term that has a width makes; a load that isn't there ends all.
func (r *reckoning) bits(t api.Term) api.Bits {
	switch t.Op {
	case api.OpConst:
		return bvec.FromInt(t.W, t.A)
	case api.OpReg:
		return r.registerBits(t)
	case api.OpArg:
		return bvec.FromInt(t.W, r.in.Vals[t.A])
	case api.OpPc:
		return bvec.Make(addressWidth, 0, r.old.Pc)
	case api.OpNext:
		return bvec.Make(addressWidth, 0, r.next())
	case api.OpFlag:
		return truth(r.old.Flags[t.A])
	case api.OpLoad:
		return r.load(t)
	case api.OpIf:
		if r.holds(t.Kids[0]) {
			return r.bits(t.Kids[1])
		}
		return r.bits(t.Kids[2])
	}
	a := r.bits(t.Kids[0])
	switch t.Op {
	case api.OpNot, api.OpNeg:
		return bvec.Un(t.Op, a)
	case api.OpSx:
		return bvec.Sext(a, t.W)
	case api.OpZx:
		return bvec.Zext(a, t.W)
	case api.OpEx:
		return bvec.Extract(a, t.A, t.B)
	}
	return bvec.Bin(t.Op, a, r.bits(t.Kids[1]))
}

// number is what a term of at most 64 bits makes.
func (r *reckoning) number(t api.Term) uint64 { return r.bits(t).Lo }

// holds says whether a term of one bit makes 1.
func (r *reckoning) holds(t api.Term) bool { return r.number(t) == 1 }

// next is the address behind the instruction.
func (r *reckoning) next() uint64 { return r.old.Pc + uint64(r.size) }

// load is what stands in memory.
func (r *reckoning) load(t api.Term) api.Bits {
	at := r.number(t.Kids[0])
	v, there := r.memory.Load(at, t.W/byteBits)
	if !there {
		panic(api.Did{Kind: api.DidLoad, At: at})
	}
	return bvec.Make(t.W, 0, v)
}

// register is the number of the register that a term or an effect names: an operand's value, or one that is told below 0.
func (r *reckoning) register(t api.Term) int {
	if t.B < 0 {
		return -1 - t.B
	}
	return r.in.Vals[t.B]
}

// registerBits is what a register has; its file's Zero counts as 0, whatever stands in it.
func (r *reckoning) registerBits(t api.Term) api.Bits {
	file, n := r.desc.Files[t.A], r.register(t)
	if n == file.Zero {
		return bvec.Make(file.Width, 0, 0)
	}
	return bvec.Make(file.Width, 0, r.old.Files[t.A][n])
}

// truth is one bit: 1, if something is so.
func truth(is bool) api.Bits {
	if is {
		return bvec.Make(1, 0, 1)
	}
	return bvec.Make(1, 0, 0)
}
