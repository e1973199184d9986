package isadl

import "dovetail/api"

func shapeFor(op int) shape {
	for _, s := range shapes {
		if s.op == op {
			return s
		}
	}
	return shape{}
}

func formulaFor(op int) shape {
	for _, s := range formulas {
		if s.op == op {
			return s
		}
	}
	return shape{}
}

// full counts a term, and says whether there are more than a text may have trees. Then no more are gone into, since terms that weren't read may share their parts, or lie within themselves.
func (w *writer) full() bool {
	w.terms++
	return w.terms > api.MaxNodes
}

// term writes a term or an effect.
func (w *writer) term(t api.Term) api.Tree {
	if w.full() {
		return api.Tree{}
	}
	switch t.Op {
	case api.OpPc:
		return word("pc")
	case api.OpNext:
		return word("next")
	case api.OpReg:
		return w.register(t)
	}
	s := shapeFor(t.Op)
	parts := []api.Tree{word(s.word)}
	for i := range len(s.parts) {
		switch s.parts[i] {
		case 'W':
			parts = append(parts, number(t.W))
		case 'A', 'I':
			parts = append(parts, number(t.A))
		case 'B':
			parts = append(parts, number(t.B))
		case 'o':
			parts = append(parts, nameAt(w.args, argName, t.A))
		case 'f':
			parts = append(parts, nameAt(w.Flags, itself, t.A))
		case 's':
			parts = append(parts, w.target(t))
		}
	}
	return list(append(parts, w.each(t.Kids, w.term)...)...)
}

// each writes terms by a function.
func (w *writer) each(l []api.Term, write func(api.Term) api.Tree) []api.Tree {
	var out []api.Tree
	for _, t := range l {
		if w.terms > api.MaxNodes {
			break
		}
		out = append(out, write(t))
	}
	return out
}

func (w *writer) register(t api.Term) api.Tree {
	file := nameAt(w.Files, fileName, t.A)
	if t.B < 0 {
		return list(file, number(-1-t.B))
	}
	return list(file, nameAt(w.args, argName, t.B))
}

func (w *writer) target(t api.Term) api.Tree {
	if t.Op == api.OpSetFlag {
		return list(word("flag"), nameAt(w.Flags, itself, t.A))
	}
	return w.register(t)
}

func (w *writer) calc(t api.Term) api.Tree {
	if w.full() {
		return api.Tree{}
	}
	if t.Op == api.OpConst {
		return number(t.A)
	}
	s := formulaFor(t.Op)
	if s.parts == "" {
		return word(s.word)
	}
	return list(append([]api.Tree{word(s.word)}, w.each(t.Kids, w.calc)...)...)
}
