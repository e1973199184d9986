package isadl

import (
	"strconv"

	"dovetail/api"
)

// writer is a description that is being written.
type writer struct {
	api.Desc
	args  []api.Arg  // of the form that is being written
	items []api.Tree // that are written
	terms int        // how many, with those within one another
}

func word(s string) api.Tree { return api.Tree{Kind: api.TreeWord, Word: s} }

func text(s string) api.Tree { return api.Tree{Kind: api.TreeText, Word: s} }

func number(n int) api.Tree { return api.Tree{Kind: api.TreeNum, Num: n} }

func list(kids ...api.Tree) api.Tree { return api.Tree{Kind: api.TreeList, Kids: kids} }

// orNone is a word; "" is written as none.
func orNone(s string) api.Tree {
	if s == "" {
		return word("none")
	}
	return word(s)
}

func (w *writer) add(parts ...api.Tree) { w.items = append(w.items, list(parts...)) }

// registers writes what the others name: the isa, files, aliases, flags.
func (w *writer) registers() {
	w.add(word("isa"), word(w.Name), nameAt(orderWords(), itself, w.Order))
	for _, f := range w.Files {
		parts := []api.Tree{word("file"), word(f.Name), number(f.Count), number(f.Width)}
		if f.Zero != -1 {
			parts = append(parts, word("zero"), number(f.Zero))
		}
		w.add(parts...)
	}
	w.aliases("alias", w.Aliases)
	for _, name := range w.Flags {
		w.add(word("flag"), word(name))
	}
}

// aliases writes aliases, or registers with a task.
func (w *writer) aliases(kind string, l []api.Alias) {
	for _, a := range l {
		w.add(word(kind), word(a.Name), nameAt(w.Files, fileName, a.File), number(a.Num))
	}
}

func (w *writer) classes() {
	for _, c := range w.Classes {
		parts := []api.Tree{word("class"), word(c.Name), nameAt(classWords(), itself, c.Kind)}
		if c.Kind == api.ClassReg {
			parts = append(parts, nameAt(w.Files, fileName, c.File))
		}
		parts = append(parts, number(c.Bits))
		if c.Plus != 0 {
			parts = append(parts, word("plus"), number(c.Plus))
		}
		if c.Shift != 0 {
			parts = append(parts, word("shift"), number(c.Shift))
		}
		if len(c.Except) > 0 {
			parts = append(parts, word("except"))
		}
		for _, n := range c.Except {
			parts = append(parts, number(n))
		}
		w.add(parts...)
	}
}

func (w *writer) forms() {
	for _, f := range w.Forms {
		w.args = f.Args
		var args, pieces, sem []api.Tree
		for _, a := range f.Args {
			args = append(args, list(word(a.Name), nameAt(w.Classes, className, a.Class)))
		}
		for _, p := range f.Pieces {
			pieces = append(pieces, w.piece(p))
		}
		for _, t := range f.Sem {
			sem = append(sem, w.term(t))
		}
		w.add(word("form"), word(f.Name), text(f.Syntax), list(args...), list(pieces...), list(sem...))
	}
}

func (w *writer) piece(p api.Piece) api.Tree {
	if p.Arg == -1 {
		return word("." + p.Lit)
	}
	name := nameAt(w.args, argName, p.Arg)
	switch {
	case name.Word == "" || w.allBits(p):
		return name
	case p.Hi == p.Lo:
		return word(name.Word + "[" + strconv.Itoa(p.Hi) + "]")
	}
	return word(name.Word + "[" + strconv.Itoa(p.Hi) + ":" + strconv.Itoa(p.Lo) + "]")
}

// allBits says whether a piece of an operand is all bits of it.
func (w *writer) allBits(p api.Piece) bool {
	class := w.args[p.Arg].Class
	return class >= 0 && class < len(w.Classes) && p.Lo == 0 && p.Hi == w.Classes[class].Bits-1
}

func (w *writer) rels() {
	for _, x := range w.Rels {
		parts := []api.Tree{word("rel"), word(x.Name), number(x.Num), nameAt(relWords(), itself, x.Kind)}
		switch x.Kind {
		case api.RelData:
			parts = append(parts, number(x.Bytes))
		case api.RelInsn:
			parts = append(parts, nameAt(w.Classes, className, x.Class))
		case api.RelPair:
			parts = append(parts, nameAt(w.Classes, className, x.Class), nameAt(w.Classes, className, x.Class2))
		}
		if x.Kind != api.RelNone {
			parts = append(parts, w.calc(x.Calc))
			parts = append(parts, checks(x)...)
		}
		w.add(parts...)
	}
}

// checks are the lists of a relocation's checks; of those that aren't told the fields stand as they do beside a number 0.
func checks(x api.Rel) []api.Tree {
	var l []api.Tree
	if x.Sign != 0 {
		l = append(l, list(nameAt(signWords(), itself, x.Sign), number(x.Width)))
	}
	if x.Align != 0 {
		l = append(l, list(word("align"), number(x.Align)))
	}
	if x.Round != 0 {
		l = append(l, list(word("round"), number(x.Round)))
	}
	if x.Hi != -1 {
		l = append(l, list(word("slice"), number(x.Hi), number(x.Lo)))
	}
	return l
}

func (w *writer) macros() {
	for _, m := range w.Macros {
		rel := word("none")
		if m.Rel != -1 {
			rel = nameAt(w.Rels, relName, m.Rel)
		}
		var lines []api.Tree
		for _, s := range m.Lines {
			lines = append(lines, text(s))
		}
		w.add(word("macro"), text(m.Syntax), rel, list(lines...))
	}
}

// links writes what ties relocations to operands and forms: uses, relaxings.
func (w *writer) links() {
	for _, u := range w.Uses {
		parts := []api.Tree{word("use"), orNone(u.Mod), nameAt(w.Classes, className, u.Class), nameAt(w.Rels, relName, u.Rel)}
		if u.End {
			parts = append(parts, word("end"))
		}
		w.add(parts...)
	}
	for _, x := range w.Relaxes {
		w.add(word("relax"), nameAt(w.Rels, relName, x.Rel), nameAt(w.Forms, formName, x.Form), nameAt(w.Rels, relName, x.To))
	}
}

func (w *writer) numbers() {
	for _, n := range w.Nums {
		w.add(word("num"), word(n.Name), number(n.Num))
	}
	w.aliases("reg", w.Regs)
}
