package term

import "dovetail/api"

// outcome is what an instruction's effects make of a state and a memory: they are reckoned over the old ones, so the new state is filled as they come, and stores wait till all is reckoned.
type outcome struct {
	reckoning
	cpu    api.Cpu
	stores []store
	did    api.Did
}

// store is a number of so many bytes that is to be put at an address.
type store struct {
	at   uint64
	size int
	v    uint64
}

// effects reckons effects, one after the other.
func (o *outcome) effects(l []api.Term) {
	for _, t := range l {
		o.effect(t)
	}
}

// effect reckons an effect of a form that is right; a trap ends all.
func (o *outcome) effect(t api.Term) {
	switch t.Op {
	case api.OpSet:
		o.set(t)
	case api.OpSetFlag:
		o.cpu.Flags[t.A] = o.holds(t.Kids[0])
	case api.OpStore:
		at := o.number(t.Kids[0])
		o.stores = append(o.stores, store{at, t.W / byteBits, o.number(t.Kids[1])})
	case api.OpJump:
		o.cpu.Pc = o.number(t.Kids[0])
	case api.OpTrap:
		panic(api.Did{Kind: api.DidTrap, Trap: t.A})
	case api.OpSys:
		o.did.Kind = api.DidSys
	case api.OpWhen:
		if o.holds(t.Kids[0]) {
			o.effects(t.Kids[1:])
		}
	}
}

// set sets a register.
func (o *outcome) set(t api.Term) {
	// What is set to a file's Zero is reckoned all the same: a load in it may end all.
	v := o.number(t.Kids[0])
	if n := o.register(t); n != o.desc.Files[t.A].Zero {
		o.cpu.Files[t.A][n] = v
	}
}

// mayStore ends all at the first store that memory doesn't take.
func (o *outcome) mayStore() {
	for _, s := range o.stores {
		if !o.memory.Holds(s.at, s.size, api.PermW) {
			panic(api.Did{Kind: api.DidStore, At: s.at})
		}
	}
}

// store does the stores, all of which memory takes, in their order.
func (o *outcome) store() {
	for _, s := range o.stores {
		o.memory.Store(s.at, s.size, s.v)
	}
}
