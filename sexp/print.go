package sexp

import (
	"strconv"
	"strings"

	"dovetail/api"
)

// printer is a text that is being written, of so many trees till now. Its functions say false where it would pass a bound.
type printer struct {
	out   strings.Builder
	nodes int
}

// tree writes a tree that lies in a list that is depth deep.
func (p *printer) tree(t api.Tree, depth int) bool {
	p.nodes++
	if p.nodes > api.MaxNodes {
		return false
	}
	switch t.Kind {
	case api.TreeWord:
		return p.put(t.Word)
	case api.TreeNum:
		return p.put(strconv.Itoa(t.Num))
	case api.TreeText:
		return p.put("\"") && p.put(t.Word) && p.put("\"")
	}
	return p.list(t.Kids, depth+1)
}

// list writes a list that is depth deep.
func (p *printer) list(kids []api.Tree, depth int) bool {
	if depth > api.MaxDepth || !p.put("(") {
		return false
	}
	for i, t := range kids {
		if i > 0 && !p.put(" ") {
			return false
		}
		if !p.tree(t, depth) {
			return false
		}
	}
	return p.put(")")
}

func (p *printer) put(s string) bool {
	if len(s) > api.MaxIsaText-p.out.Len() {
		return false
	}
	p.out.WriteString(s)
	return true
}

// allSound says whether trees are sound, and all within them.
func allSound(l []api.Tree) bool {
	// They may be far deeper than a text's: a list of lists still to be looked at takes the place of recursion.
	lists := [][]api.Tree{l}
	for len(lists) > 0 {
		last := lists[len(lists)-1]
		lists = lists[:len(lists)-1]
		for _, t := range last {
			if !sound(t) {
				return false
			}
			if len(t.Kids) > 0 {
				lists = append(lists, t.Kids)
			}
		}
	}
	return true
}

// sound says whether a tree is sound but for its Kids.
func sound(t api.Tree) bool {
	switch t.Kind {
	case api.TreeWord:
		return isWord(t.Word) && t.Num == 0 && len(t.Kids) == 0
	case api.TreeNum:
		return isNumber(t.Num) && t.Word == "" && len(t.Kids) == 0
	case api.TreeText:
		return isText(t.Word) && t.Num == 0 && len(t.Kids) == 0
	case api.TreeList:
		return t.Word == "" && t.Num == 0
	}
	return false
}

func isWord(s string) bool {
	return s != "" && runLength(s) == len(s) && !beginsNumber(s[0])
}

func isText(s string) bool {
	for i := range len(s) {
		if !isTextByte(s[i]) {
			return false
		}
	}
	return true
}
