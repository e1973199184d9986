package isadl

import (
	"strings"

	"dovetail/api"
)

// item reads an item's parts into the description.
func (r *reader) item(first bool) {
	kind := r.word()
	if first != (kind == "isa") {
		r.fail(api.ErrIsa)
	}
	switch kind {
	case "isa":
		r.isa()
	case "file":
		r.file()
	case "alias":
		r.Aliases = r.alias(r.Aliases, maxAliases)
	case "flag":
		r.Flags = append(r.Flags, newName(r, r.Flags, itself, api.MaxFlags))
	case "class":
		r.class()
	case "form":
		r.form()
	case "macro":
		r.macro()
	case "rel":
		r.rel()
	case "use":
		r.use()
	case "relax":
		r.relax()
	case "num":
		r.num()
	case "reg":
		r.Regs = r.alias(r.Regs, maxRegs)
	default:
		r.fail(api.ErrIsa)
	}
}

func (r *reader) isa() {
	r.Name = r.word()
	r.Order = r.oneOf(orderWords())
}

func (r *reader) file() {
	// A register's list begins with its file's name, so that no other list may begin with it.
	if beginsList(r.ahead()) {
		r.fail(api.ErrIsaName)
	}
	f := api.File{Name: newName(r, r.Files, fileName, api.MaxFiles), Zero: -1}
	f.Count = r.number()
	f.Width = r.number()
	if r.taken("zero") {
		f.Zero = r.number()
	}
	r.Files = append(r.Files, f)
}

// alias reads an alias, or a register with a task, behind others.
func (r *reader) alias(l []api.Alias, most int) []api.Alias {
	a := api.Alias{Name: newName(r, l, aliasName, most)}
	a.File = known(r, r.Files, fileName)
	a.Num = r.number()
	return append(l, a)
}

func (r *reader) class() {
	c := api.Class{Name: newName(r, r.Classes, className, api.MaxClasses)}
	c.Kind = r.oneOf(classWords())
	if c.Kind == api.ClassReg {
		c.File = known(r, r.Files, fileName)
	}
	c.Bits = r.number()
	if c.Kind == api.ClassReg && r.taken("plus") {
		c.Plus = r.number()
	}
	if c.Kind != api.ClassReg && r.taken("shift") {
		c.Shift = r.number()
	}
	if r.taken("except") {
		c.Except = several(r, maxExcept, r.integer)
	}
	r.Classes = append(r.Classes, c)
}

func (r *reader) form() {
	f := api.Form{Name: newName(r, r.Forms, formName, api.MaxForms)}
	f.Syntax = r.text()
	r.args = nil
	r.within(func() {
		for r.more() {
			r.within(r.arg)
		}
	})
	f.Args = r.args
	r.within(func() { f.Pieces = several(r, maxPieces, r.piece) })
	r.within(func() { f.Sem = several(r, maxEffects, r.effect) })
	r.Forms = append(r.Forms, f)
}

func (r *reader) arg() {
	a := api.Arg{Name: newName(r, r.args, argName, api.MaxArgs)}
	a.Class = known(r, r.Classes, className)
	r.args = append(r.args, a)
}

func (r *reader) piece() api.Piece {
	w := r.word()
	if lit, is := strings.CutPrefix(w, "."); is {
		if lit == "" || strings.Trim(lit, "01x") != "" {
			r.fail(api.ErrIsa)
		}
		return api.Piece{Arg: -1, Lit: lit}
	}
	name, bits, cut := strings.Cut(w, "[")
	arg := found(r, r.args, argName, name)
	if arg < 0 {
		return api.Piece{}
	}
	if !cut {
		return api.Piece{Arg: arg, Hi: r.Classes[r.args[arg].Class].Bits - 1}
	}
	hi, lo := r.bits(bits)
	return api.Piece{Arg: arg, Hi: hi, Lo: lo}
}

// bits reads what stands behind a piece's [.
func (r *reader) bits(s string) (int, int) {
	s, closed := strings.CutSuffix(s, "]")
	hi, lo, two := strings.Cut(s, ":")
	if !two {
		lo = hi
	}
	h, l := bitNumber(hi), bitNumber(lo)
	if !closed || h < 0 || l < 0 {
		r.fail(api.ErrIsa)
	}
	return h, l
}

// bitNumber is a number of one or two digits, without a nought ahead; -1, if s is none.
func bitNumber(s string) int {
	if s == "" || len(s) > 2 || len(s) == 2 && s[0] == '0' {
		return -1
	}
	n := 0
	for i := range len(s) {
		if s[i] < '0' || s[i] > '9' {
			return -1
		}
		n = 10*n + int(s[i]-'0')
	}
	return n
}

func (r *reader) macro() {
	room(r, r.Macros, maxMacros)
	m := api.Macro{Syntax: r.text(), Rel: -1}
	if !r.taken("none") {
		m.Rel = known(r, r.Rels, relName)
	}
	r.within(func() { m.Lines = several(r, maxLines, r.text) })
	r.Macros = append(r.Macros, m)
}

func (r *reader) rel() {
	x := api.Rel{Name: newName(r, r.Rels, relName, api.MaxRels), Hi: -1}
	x.Num = r.number()
	x.Kind = r.oneOf(relWords())
	switch x.Kind {
	case api.RelData:
		x.Bytes = r.number()
	case api.RelInsn:
		x.Class = known(r, r.Classes, className)
	case api.RelPair:
		x.Class = known(r, r.Classes, className)
		x.Class2 = known(r, r.Classes, className)
	}
	if x.Kind != api.RelNone {
		x.Calc = r.calc()
		r.checks(&x)
	}
	r.Rels = append(r.Rels, x)
}

// checks reads a relocation's checks, each kind of which comes once.
func (r *reader) checks(x *api.Rel) {
	var told []string
	for r.more() {
		r.within(func() {
			kind := r.check(x)
			if place(told, itself, kind) >= 0 {
				r.fail(api.ErrIsa)
			}
			told = append(told, kind)
		})
	}
}

// check reads a check and answers its kind.
func (r *reader) check(x *api.Rel) string {
	kind := r.word()
	if sign := place(signWords(), itself, kind); sign > 0 {
		x.Sign, x.Width = sign, r.number()
		return "sign"
	}
	switch kind {
	case "align":
		x.Align = r.number()
	case "round":
		x.Round = r.number()
	case "slice":
		x.Hi = r.number()
		x.Lo = r.number()
	default:
		r.fail(api.ErrIsa)
	}
	return kind
}

func (r *reader) use() {
	room(r, r.Uses, maxUses)
	var u api.Use
	if !r.taken("none") {
		u.Mod = r.word()
	}
	u.Class = known(r, r.Classes, className)
	u.Rel = known(r, r.Rels, relName)
	u.End = r.taken("end")
	r.Uses = append(r.Uses, u)
}

func (r *reader) relax() {
	room(r, r.Relaxes, maxRelaxes)
	x := api.Relaxed{Rel: known(r, r.Rels, relName)}
	x.Form = known(r, r.Forms, formName)
	x.To = known(r, r.Rels, relName)
	r.Relaxes = append(r.Relaxes, x)
}

func (r *reader) num() {
	n := api.Named{Name: newName(r, r.Nums, namedName, maxNums)}
	n.Num = r.integer()
	r.Nums = append(r.Nums, n)
}
