package isacheck

import "dovetail/api"

// addressWidth is the width of addresses.
const addressWidth = 64

// bit is the width of conditions and flags.
const bit = 1

// scope is what the terms of a form may speak of: a description and the form's operands.
type scope struct {
	api.Desc
	args []api.Arg
}

// width is a term's width; 0, if it isn't right.
func (s *scope) width(t api.Term) int {
	if len(t.Kids) != kidsOf(t.Op) {
		return 0
	}
	var kids [3]int
	for n, k := range t.Kids {
		w := s.width(k)
		if w == 0 {
			return 0
		}
		kids[n] = w
	}
	if len(t.Kids) == 0 {
		return s.leafWidth(t)
	}
	return joined(t, kids[0], kids[1], kids[2])
}

// kidsOf is how many parts a term of an operation has; -1, if it isn't one of terms.
func kidsOf(op int) int {
	switch {
	case op >= api.OpAdd && op <= api.OpCat:
		return 2
	case op == api.OpNot || op == api.OpNeg || op == api.OpLoad || op == api.OpSx || op == api.OpZx || op == api.OpEx:
		return 1
	case op == api.OpIf:
		return 3
	case op >= api.OpConst && op <= api.OpFlag:
		return 0
	}
	return -1
}

// leafWidth is the width of a term without parts.
func (s *scope) leafWidth(t api.Term) int {
	switch t.Op {
	case api.OpConst:
		return wide(t.W)
	case api.OpReg:
		return s.registerWidth(t)
	case api.OpArg:
		if class, there := s.classOf(t.A); there && class.Kind != api.ClassReg {
			return wide(t.W)
		}
	case api.OpPc, api.OpNext:
		return addressWidth
	case api.OpFlag:
		if isPlace(t.A, s.Flags) {
			return bit
		}
	}
	return 0
}

// joined is the width of a term of parts that have the widths a, b and c, of which those that aren't there are 0.
func joined(t api.Term, a, b, c int) int {
	switch t.Op {
	case api.OpShl, api.OpShr, api.OpSar, api.OpNot, api.OpNeg:
		return a
	case api.OpEq, api.OpLtu, api.OpLts:
		if a == b {
			return bit
		}
		return 0
	case api.OpCat:
		return wide(a + b)
	case api.OpLoad:
		if a == addressWidth && stored(t.W) {
			return t.W
		}
		return 0
	case api.OpIf:
		if a == bit {
			return shared(b, c)
		}
		return 0
	case api.OpSx, api.OpZx:
		return wide(t.W)
	case api.OpEx:
		if t.B >= 0 && t.B <= t.A && t.A < a {
			return t.A - t.B + 1
		}
		return 0
	}
	// All other operations on two.
	return shared(a, b)
}

// wide is a width, if a term may have it; else 0.
func wide(w int) int {
	if w < 1 || w > api.MaxBits {
		return 0
	}
	return w
}

// shared is the width that two have; 0, if they have two.
func shared(a, b int) int {
	if a != b {
		return 0
	}
	return a
}

// stored says whether numbers of a width lie in memory.
func stored(w int) bool { return w == 8 || w == 16 || w == 32 || w == 64 }

// registerWidth is the width of the register that a term or an effect names; 0, if it names none.
func (s *scope) registerWidth(t api.Term) int {
	if !fileRight(s.Desc, t.A) {
		return 0
	}
	file := s.Files[t.A]
	if class, there := s.classOf(t.B); there && class.Kind == api.ClassReg && class.File == t.A {
		return file.Width
	}
	if t.B < 0 && t.B >= -file.Count {
		return file.Width
	}
	return 0
}

// classOf is the class of an operand, if both are there.
func (s *scope) classOf(arg int) (api.Class, bool) {
	if !isPlace(arg, s.args) || !isPlace(s.args[arg].Class, s.Classes) {
		return api.Class{}, false
	}
	return s.Classes[s.args[arg].Class], true
}
