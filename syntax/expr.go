package syntax

import "orbits/api"

func (p *parser) expr() *Expr {
	left := p.and()
	for p.accept("|") {
		left = &Expr{Op: Or, Left: left, Right: p.and()}
	}
	return left
}

func (p *parser) and() *Expr {
	left := p.comparison()
	for p.accept("&") {
		left = &Expr{Op: And, Left: left, Right: p.comparison()}
	}
	return left
}

// comparison takes one sign at most: behind its right side another one fits nowhere.
func (p *parser) comparison() *Expr {
	left := p.sum()
	switch {
	case p.accept("=="):
		return &Expr{Op: Equal, Left: left, Right: p.sum()}
	case p.accept("!="):
		return &Expr{Op: Differ, Left: left, Right: p.sum()}
	case p.accept("<"):
		return &Expr{Op: Less, Left: left, Right: p.sum()}
	}
	return left
}

func (p *parser) sum() *Expr {
	left := p.atom()
	for {
		switch {
		case p.accept("+"):
			left = &Expr{Op: Plus, Left: left, Right: p.atom()}
		case p.accept("-"):
			left = &Expr{Op: Minus, Left: left, Right: p.atom()}
		default:
			return left
		}
	}
}

func (p *parser) atom() *Expr {
	row := 0
	for p.is("!") {
		if row == api.MaxNest {
			p.fail()
			break
		}
		p.next++
		row++
	}
	e := p.bareAtom()
	for range row {
		e = &Expr{Op: Not, Left: e}
	}
	return e
}

func (p *parser) bareAtom() *Expr {
	switch {
	case p.is("("):
		p.open("(")
		e := p.expr()
		p.shut(")")
		return e
	case p.accept("true"):
		return &Expr{Op: True}
	case p.accept("false"):
		return &Expr{Op: False}
	case p.accept("none"):
		return &Expr{Op: None}
	case p.peek().isDigit():
		return &Expr{Op: Number, Digit: p.digit().Value}
	}
	return &Expr{Op: Value, Place: p.place()}
}
