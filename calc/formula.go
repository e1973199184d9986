package calc

import "dovetail/api"

// pageBits are those of an address that tell a place within its page.
const pageBits = 0xFFF

// kept is a relocation that shares no part with another.
func kept(x api.Rel) api.Rel {
	if x.Kind == api.RelNone {
		// Its formula may be anything, and is never reckoned.
		x.Calc = api.Term{}
	}
	x.Calc = copied(x.Calc)
	return x
}

func copied(t api.Term) api.Term {
	out := t
	out.Kids = make([]api.Term, len(t.Kids))
	for n, k := range t.Kids {
		out.Kids[n] = copied(k)
	}
	return out
}

// reckon is the value of a formula that is right.
func reckon(t api.Term, e api.Env) int {
	switch t.Op {
	case api.OpConst:
		return t.A
	case api.OpSym:
		return e.S
	case api.OpAddend:
		return e.A
	case api.OpPlace:
		return e.P
	case api.OpGot:
		return e.G
	case api.OpTp:
		return e.T
	case api.OpGotTp:
		return e.H
	case api.OpAdd:
		return reckon(t.Kids[0], e) + reckon(t.Kids[1], e)
	case api.OpSub:
		return reckon(t.Kids[0], e) - reckon(t.Kids[1], e)
	}
	return reckon(t.Kids[0], e) &^ pageBits
}
