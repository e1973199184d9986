package isadl

import "dovetail/api"

// shape is a word that begins a list, what it stands for, and the parts behind it, each by a letter: W, A, B: a number from 0 on, for the field of that name; I: any number, for A; o: an operand, f: a flag, for A; s: what is set; t: a term; e: effects, up to the list's end; c: a part of a formula.
type shape struct {
	word  string
	op    int
	parts string
}

// shapes are those of terms, then those of effects.
var shapes = []shape{
	{"add", api.OpAdd, "tt"},
	{"sub", api.OpSub, "tt"},
	{"mul", api.OpMul, "tt"},
	{"and", api.OpAnd, "tt"},
	{"or", api.OpOr, "tt"},
	{"xor", api.OpXor, "tt"},
	{"shl", api.OpShl, "tt"},
	{"shr", api.OpShr, "tt"},
	{"sar", api.OpSar, "tt"},
	{"divu", api.OpDivu, "tt"},
	{"remu", api.OpRemu, "tt"},
	{"divs", api.OpDivs, "tt"},
	{"rems", api.OpRems, "tt"},
	{"eq", api.OpEq, "tt"},
	{"ltu", api.OpLtu, "tt"},
	{"lts", api.OpLts, "tt"},
	{"cat", api.OpCat, "tt"},
	{"not", api.OpNot, "t"},
	{"neg", api.OpNeg, "t"},
	{"c", api.OpConst, "WI"},
	{"imm", api.OpArg, "oW"},
	{"flag", api.OpFlag, "f"},
	{"ld", api.OpLoad, "Wt"},
	{"if", api.OpIf, "ttt"},
	{"sx", api.OpSx, "Wt"},
	{"zx", api.OpZx, "Wt"},
	{"ex", api.OpEx, "ABt"},
	{"set", api.OpSet, "st"},
	{"set", api.OpSetFlag, "st"},
	{"st", api.OpStore, "Wtt"},
	{"jump", api.OpJump, "t"},
	{"trap", api.OpTrap, "A"},
	{"sys", api.OpSys, ""},
	{"when", api.OpWhen, "te"},
}

// formulas are the shapes of formulas; those without parts are no lists.
var formulas = []shape{
	{"S", api.OpSym, ""},
	{"A", api.OpAddend, ""},
	{"P", api.OpPlace, ""},
	{"G", api.OpGot, ""},
	{"T", api.OpTp, ""},
	{"H", api.OpGotTp, ""},
	{"add", api.OpAdd, "cc"},
	{"sub", api.OpSub, "cc"},
	{"page", api.OpPage, "c"},
}

// calcWidth is the width of a number in a formula.
const calcWidth = 64

func shapeOf(word string) shape {
	for _, s := range shapes {
		if s.word == word {
			return s
		}
	}
	return shape{}
}

func formulaOf(word string) shape {
	for _, s := range formulas {
		if s.word == word {
			return s
		}
	}
	return shape{}
}

// beginsList says whether a list of a term or an effect begins with a word.
func beginsList(word string) bool { return shapeOf(word).op != 0 }

func (s shape) isTerm() bool { return s.op > 0 && s.op < api.OpSet }

func (s shape) isEffect() bool { return s.op >= api.OpSet }

func (r *reader) term() (t api.Term) {
	switch {
	case r.taken("pc"):
		return api.Term{Op: api.OpPc}
	case r.taken("next"):
		return api.Term{Op: api.OpNext}
	}
	r.within(func() {
		head := r.word()
		switch s := shapeOf(head); {
		case s.isTerm():
			t = r.filled(s)
		case s.isEffect():
			r.fail(api.ErrIsa)
		default:
			t = r.register(head)
		}
	})
	return t
}

// register reads the part behind a register's file.
func (r *reader) register(file string) api.Term {
	t := api.Term{Op: api.OpReg, A: found(r, r.Files, fileName, file)}
	if r.at(api.TreeNum) {
		t.B = -1 - r.number()
	} else {
		t.B = known(r, r.args, argName)
	}
	return t
}

func (r *reader) effect() (t api.Term) {
	r.within(func() {
		s := shapeOf(r.word())
		if !s.isEffect() {
			r.fail(api.ErrIsa)
		}
		t = r.filled(s)
	})
	return t
}

func (r *reader) calc() (t api.Term) {
	switch {
	case r.at(api.TreeNum):
		return api.Term{Op: api.OpConst, W: calcWidth, A: r.integer()}
	case r.at(api.TreeList):
		r.within(func() { t = r.formula(true) })
		return t
	}
	return r.formula(false)
}

// formula reads a formula's word and the parts behind it in its list, if it begins one.
func (r *reader) formula(inList bool) api.Term {
	s := formulaOf(r.word())
	if s.op == 0 || inList != (s.parts != "") {
		r.fail(api.ErrIsa)
	}
	return r.filled(s)
}

// filled reads the parts of a shape.
func (r *reader) filled(s shape) api.Term {
	t := api.Term{Op: s.op}
	for i := range len(s.parts) {
		switch s.parts[i] {
		case 'W':
			t.W = r.number()
		case 'A':
			t.A = r.number()
		case 'B':
			t.B = r.number()
		case 'I':
			t.A = r.integer()
		case 'o':
			t.A = known(r, r.args, argName)
		case 'f':
			t.A = known(r, r.Flags, itself)
		case 's':
			r.within(func() { r.target(&t) })
		case 't':
			t.Kids = append(t.Kids, r.term())
		case 'e':
			for r.more() {
				t.Kids = append(t.Kids, r.effect())
			}
		case 'c':
			t.Kids = append(t.Kids, r.calc())
		}
	}
	return t
}

// target reads what an effect sets: a flag, or a register.
func (r *reader) target(t *api.Term) {
	head := r.word()
	if head == "flag" {
		t.Op, t.A = api.OpSetFlag, known(r, r.Flags, itself)
		return
	}
	reg := r.register(head)
	t.A, t.B = reg.A, reg.B
}
