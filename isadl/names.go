package isadl

import "dovetail/api"

// place says where in a list the part of that name is; -1, if none is.
func place[T any](l []T, nameOf func(T) string, name string) int {
	for i, part := range l {
		if nameOf(part) == name {
			return i
		}
	}
	return -1
}

// nameAt is the name of a list's part. Of a place that isn't there it is a word without bytes, which layer 3 refuses.
func nameAt[T any](l []T, nameOf func(T) string, i int) api.Tree {
	if i < 0 || i >= len(l) {
		return word("")
	}
	return word(nameOf(l[i]))
}

func fileName(f api.File) string { return f.Name }

func aliasName(a api.Alias) string { return a.Name }

func className(c api.Class) string { return c.Name }

func argName(a api.Arg) string { return a.Name }

func formName(f api.Form) string { return f.Name }

func relName(x api.Rel) string { return x.Name }

func namedName(n api.Named) string { return n.Name }

// itself is the name of what is a name alone: of a flag, of a word.
func itself(name string) string { return name }

// The words of the orders, of the kinds of classes and relocations, and of a value's signs, each at the place of its number.

func orderWords() []string { return []string{"", "word", "bytes"} }

func classWords() []string { return []string{"", "reg", "uns", "sgn", "pc", "nx"} }

func relWords() []string { return []string{"", "none", "data", "insn", "pair"} }

func signWords() []string { return []string{"", "signed", "unsigned", "either"} }
