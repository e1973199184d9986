package expr

import "dovetail/api"

// parser is a text that is being read: the place of the next byte; once it is given up, what is wrong with it, and where.
type parser struct {
	text string
	at   int

	wrong   api.Errno
	wrongAt int
}

// fail gives the text up. What reads a part of a text answers false from then on.
func (p *parser) fail(at int, e api.Errno) (sum, bool) {
	p.wrong, p.wrongAt = e, at
	return sum{}, false
}

// next goes past blanks and answers the byte behind them; 0, which begins no token, at the text's end.
func (p *parser) next() byte {
	for p.at < len(p.text) && p.text[p.at] == ' ' {
		p.at++
	}
	if p.at == len(p.text) {
		return 0
	}
	return p.text[p.at]
}

// whole reads the sum that the whole text must be.
func (p *parser) whole() (sum, bool) {
	s, ok := p.sum(0)
	if !ok {
		return sum{}, false
	}
	// A byte 0 isn't the text's end.
	if p.next(); p.at < len(p.text) {
		return p.fail(p.at, api.ErrExpr)
	}
	return s, true
}

// sum reads a sum that stands within so many parentheses and signs.
func (p *parser) sum(depth int) (sum, bool) {
	total, ok := p.product(depth)
	for ok && (p.next() == '+' || p.next() == '-') {
		at := p.at
		p.at++
		var s sum
		if s, ok = p.product(depth); !ok {
			break
		}
		if p.text[at] == '-' {
			s = s.by(-1)
		}
		total.add(s)
		if total.tooMany() {
			return p.fail(at, api.ErrExprMany)
		}
	}
	return total, ok
}

// product reads a product.
func (p *parser) product(depth int) (sum, bool) {
	total, ok := p.factor(depth)
	for ok && p.next() == '*' {
		at := p.at
		p.at++
		var s sum
		if s, ok = p.factor(depth); !ok {
			break
		}
		switch {
		case !s.hasSymbols():
			total = total.by(s.off)
		case !total.hasSymbols():
			total = s.by(total.off)
		default:
			return p.fail(at, api.ErrExpr)
		}
	}
	return total, ok
}

// factor reads a factor.
func (p *parser) factor(depth int) (sum, bool) {
	c := p.next()
	if c != '(' && c != '-' {
		return p.run()
	}
	if depth == api.MaxDepth {
		return p.fail(p.at, api.ErrExprMany)
	}
	p.at++
	if c == '(' {
		return p.inner(depth + 1)
	}
	s, ok := p.factor(depth + 1)
	return s.by(-1), ok
}

// inner reads a sum and its ).
func (p *parser) inner(depth int) (sum, bool) {
	s, ok := p.sum(depth)
	if !ok {
		return sum{}, false
	}
	if p.next() != ')' {
		return p.fail(p.at, api.ErrExpr)
	}
	p.at++
	return s, true
}

// run reads a number or a name: all bytes that may belong to one.
func (p *parser) run() (sum, bool) {
	from := p.at
	run := p.text[from : from+runLength(p.text[from:])]
	p.at += len(run)
	if isName(run) {
		return symbol(run), true
	}
	n, ok := numberOf(run)
	if !ok {
		return p.fail(from, api.ErrExpr)
	}
	return number(n), true
}
