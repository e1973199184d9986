package asmtext

import (
	"slices"

	"dovetail/api"
)

// lineOf gives the line of some tokens, with its labels taken off them.
func lineOf(no int, toks []api.Tok) api.Line {
	line := api.Line{No: no}
	for beginWithLabel(toks) {
		line.Labels = append(line.Labels, toks[0].Text)
		toks = toks[2:]
	}
	line.Toks = toks
	return line
}

// beginWithLabel says whether tokens begin with a name and a :.
func beginWithLabel(l []api.Tok) bool {
	return len(l) >= 2 && l[0].Kind == api.TokWord && isName(l[0].Text) && l[1].Kind == api.TokSign && l[1].Text == ":"
}

// isEmpty says whether a line has neither labels nor tokens.
func isEmpty(line api.Line) bool { return len(line.Labels) == 0 && len(line.Toks) == 0 }

// areSound says whether lines are such as Parse gives, but for their number of tokens.
func areSound(l []api.Line) bool {
	last := 0
	for _, line := range l {
		if line.No <= last || line.No > api.MaxLines || !isSound(line) {
			return false
		}
		last = line.No
	}
	return true
}

// isSound says whether a line is such as Parse gives, but for its place and its number of tokens.
func isSound(line api.Line) bool {
	if isEmpty(line) || beginWithLabel(line.Toks) {
		return false
	}
	return allOf(line.Labels, isName) && allOf(line.Toks, isTok)
}

// allOf says whether all parts of a list are so.
func allOf[T any](l []T, is func(T) bool) bool {
	return !slices.ContainsFunc(l, func(x T) bool { return !is(x) })
}

// isTok says whether a token is such as Words gives.
func isTok(t api.Tok) bool {
	switch t.Kind {
	case api.TokWord:
		return isWord(t.Text)
	case api.TokSign:
		return len(t.Text) == 1 && isSignByte(t.Text[0])
	}
	return t.Kind == api.TokText
}
