package term

import (
	"slices"

	"dovetail/api"
)

// kept is what instructions are reckoned by, of a description that may be written over afterwards.
func kept(d api.Desc) api.Desc {
	k := api.Desc{Files: slices.Clone(d.Files), Flags: slices.Clone(d.Flags), Classes: slices.Clone(d.Classes)}
	for n := range k.Classes {
		// A value that its class excepts is reckoned like any other.
		k.Classes[n].Except = nil
	}
	for _, f := range d.Forms {
		k.Forms = append(k.Forms, api.Form{Args: slices.Clone(f.Args), Sem: clones(f.Sem)})
	}
	return k
}

// clones are terms that share no parts with others.
func clones(l []api.Term) []api.Term {
	l = slices.Clone(l)
	for n := range l {
		l[n].Kids = clones(l[n].Kids)
	}
	return l
}

// sound says whether a state has the files and flags that are told, and no register more bits than its file's Width.
func (p *Interp) sound(c api.Cpu) bool {
	if len(c.Files) != len(p.desc.Files) || len(c.Flags) != len(p.desc.Flags) {
		return false
	}
	for n, f := range p.desc.Files {
		if len(c.Files[n]) != f.Count || slices.Max(c.Files[n])>>f.Width != 0 {
			return false
		}
	}
	return true
}

// copied is a state with lists of its own.
func copied(c api.Cpu) api.Cpu {
	out := api.Cpu{Pc: c.Pc, Files: make([][]uint64, len(c.Files)), Flags: slices.Clone(c.Flags)}
	for n, f := range c.Files {
		out.Files[n] = slices.Clone(f)
	}
	return out
}
