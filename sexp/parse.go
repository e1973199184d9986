package sexp

import (
	"strconv"
	"strings"

	"dovetail/api"
)

// wrong is what a text is given up with, by a panic: the place, the error.
type wrong struct {
	at  int
	err api.Errno
}

// parser is a text that is being read: the place of the next byte, how many trees have begun.
type parser struct {
	text      string
	at, nodes int
}

// trees reads the trees of a list that is depth deep, and its ); at depth 0 those of the whole text.
func (p *parser) trees(depth int) []api.Tree {
	var l []api.Tree
	for p.skip(); p.at < len(p.text) && p.text[p.at] != ')'; p.skip() {
		l = append(l, p.tree(depth))
	}
	// A whole text ends at its end, a list at a ).
	if atEnd := p.at == len(p.text); atEnd != (depth == 0) {
		panic(wrong{p.at, api.ErrSexp})
	}
	p.at++
	return l
}

// tree reads a tree that lies in a list that is depth deep.
func (p *parser) tree(depth int) api.Tree {
	from := p.at
	var t api.Tree
	switch p.text[from] {
	case '(':
		p.at++
		p.count(from)
		if depth == api.MaxDepth {
			panic(wrong{from, api.ErrSexpMany})
		}
		return api.Tree{Kind: api.TreeList, Kids: p.trees(depth + 1)}
	case '"':
		t = p.quoted()
	default:
		t = p.run()
	}
	// A token that is none itself counts ahead of its being one too many.
	p.count(from)
	return t
}

// count counts a tree that begins at a place.
func (p *parser) count(from int) {
	p.nodes++
	if p.nodes > api.MaxNodes {
		panic(wrong{from, api.ErrSexpMany})
	}
}

// quoted reads a text from its " on.
func (p *parser) quoted() api.Tree {
	from := p.at
	for i := from + 1; i < len(p.text) && p.text[i] != '\n'; i++ {
		if p.text[i] == '"' {
			p.at = i + 1
			return api.Tree{Kind: api.TreeText, Word: strings.Clone(p.text[from+1 : i])}
		}
		if !isTextByte(p.text[i]) {
			panic(wrong{i, api.ErrSexp})
		}
	}
	panic(wrong{from, api.ErrSexp})
}

// run reads a word or a number.
func (p *parser) run() api.Tree {
	from := p.at
	p.at += runLength(p.text[from:])
	run := p.text[from:p.at]
	if run == "" {
		panic(wrong{from, api.ErrSexp})
	}
	if !beginsNumber(run[0]) {
		return api.Tree{Kind: api.TreeWord, Word: strings.Clone(run)}
	}
	n, err := strconv.Atoi(run)
	// Noughts ahead and -0 are not how a number is written.
	if err != nil || !isNumber(n) || strconv.Itoa(n) != run {
		panic(wrong{from, api.ErrSexp})
	}
	return api.Tree{Kind: api.TreeNum, Num: n}
}

// skip goes past blanks, line feeds and remarks.
func (p *parser) skip() {
	for p.at < len(p.text) {
		switch p.text[p.at] {
		case ' ', '\n':
			p.at++
		case ';':
			n := strings.IndexByte(p.text[p.at:], '\n')
			if n < 0 {
				n = len(p.text) - p.at
			}
			p.at += n
		default:
			return
		}
	}
}
