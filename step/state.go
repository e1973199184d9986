package step

import (
	"slices"

	"dovetail/api"
)

// sound says whether a state has the files and flags that a description tells, and no register more bits than its file's Width.
func sound(d api.Desc, c api.Cpu) bool {
	if len(c.Files) != len(d.Files) || len(c.Flags) != len(d.Flags) {
		return false
	}
	for n, f := range d.Files {
		tooWide := func(v uint64) bool { return v>>f.Width != 0 }
		if len(c.Files[n]) != f.Count || slices.ContainsFunc(c.Files[n], tooWide) {
			return false
		}
	}
	return true
}

// copied is a state with lists of its own.
func copied(c api.Cpu) api.Cpu {
	out := api.Cpu{Pc: c.Pc, Flags: slices.Clone(c.Flags)}
	for _, f := range c.Files {
		out.Files = append(out.Files, slices.Clone(f))
	}
	return out
}

// told is a trace with lists of its own.
func told(t api.Trace) api.Trace {
	t.Events = slices.Clone(t.Events)
	for n := range t.Events {
		t.Events[n].Bytes = slices.Clone(t.Events[n].Bytes)
	}
	return t
}
