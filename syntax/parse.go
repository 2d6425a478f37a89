package syntax

import "orbits/api"

// parser goes along the tokens. Once one is wrong it stands on the last token, which fits nowhere, so every loop and every descent comes to its end.
type parser struct {
	tokens []Token
	next   int
	depth  int
	failed bool
	at     int
}

// Parse makes a tree of what Scan gave. If it can't, ok is false, and bad is the place of the first token with which no model begins.
func Parse(tokens []Token) (m Model, bad int, ok bool) {
	p := parser{tokens: tokens}
	m = p.model()
	if !p.is("") {
		p.fail()
	}
	if p.failed {
		return Model{}, p.at, false
	}
	return m, 0, true
}

func (p *parser) peek() Token { return p.tokens[p.next] }

func (p *parser) is(text string) bool { return p.peek().Text == text }

// fail keeps the place of the first failure: those behind it come of it.
func (p *parser) fail() {
	if !p.failed {
		p.failed = true
		p.at = p.peek().At
	}
	p.next = len(p.tokens) - 1
}

func (p *parser) accept(text string) bool {
	if !p.is(text) {
		return false
	}
	p.next++
	return true
}

func (p *parser) expect(text string) {
	if !p.accept(text) {
		p.fail()
	}
}

func (p *parser) open(bracket string) {
	if p.depth == api.MaxNest {
		p.fail()
		return
	}
	p.expect(bracket)
	p.depth++
}

func (p *parser) shut(bracket string) {
	p.expect(bracket)
	p.depth--
}

func (p *parser) name() Name {
	t := p.peek()
	if !t.isName() {
		p.fail()
		return Name{}
	}
	p.next++
	return Name{Text: t.Text, At: t.At}
}

func (p *parser) digit() Digit {
	t := p.peek()
	if !t.isDigit() {
		p.fail()
		return Digit{}
	}
	p.next++
	return Digit{Value: int(t.Text[0] - '0'), At: t.At}
}

func (p *parser) model() Model {
	var m Model
	for p.is("set") {
		m.Sets = append(m.Sets, p.set())
	}
	for p.is("kind") {
		m.Kinds = append(m.Kinds, p.kind())
	}
	m.Vars = append(m.Vars, p.variable())
	for p.is("var") {
		m.Vars = append(m.Vars, p.variable())
	}
	m.Rules = append(m.Rules, p.rule())
	for p.is("rule") {
		m.Rules = append(m.Rules, p.rule())
	}
	for p.is("never") {
		m.Nevers = append(m.Nevers, p.never())
	}
	return m
}

func (p *parser) set() Set {
	p.expect("set")
	s := Set{Name: p.name(), Size: p.digit()}
	p.expect(";")
	return s
}

func (p *parser) kind() Kind {
	p.expect("kind")
	k := Kind{Name: p.name()}
	p.open("{")
	k.Members = append(k.Members, p.name())
	p.expect(",")
	k.Members = append(k.Members, p.name())
	for p.accept(",") {
		k.Members = append(k.Members, p.name())
	}
	p.shut("}")
	return k
}

func (p *parser) variable() Var {
	p.expect("var")
	v := Var{Name: p.name()}
	p.expect(":")
	if p.is("[") {
		v.IsArray = true
		v.Over = p.inSquare()
	}
	v.Simple = p.simple()
	p.expect(";")
	return v
}

func (p *parser) inSquare() Name {
	p.open("[")
	name := p.name()
	p.shut("]")
	return name
}

func (p *parser) simple() Simple {
	switch {
	case p.accept("bool"):
		return Simple{Form: Bool}
	case p.accept("to"):
		return Simple{Form: To, Top: p.digit()}
	}
	return Simple{Form: Named, Name: p.name()}
}

func (p *parser) rule() Rule {
	p.expect("rule")
	r := Rule{Name: p.name(), Params: p.params()}
	p.expect("if")
	r.Guard = p.expr()
	r.Block = p.block()
	return r
}

func (p *parser) never() Never {
	p.expect("never")
	n := Never{Name: p.name(), Params: p.params(), Expr: p.expr()}
	p.expect(";")
	return n
}

func (p *parser) params() []Param {
	var params []Param
	p.open("(")
	if !p.is(")") {
		params = append(params, p.param())
		for p.accept(",") {
			params = append(params, p.param())
		}
	}
	p.shut(")")
	return params
}

func (p *parser) param() Param {
	name := p.name()
	p.expect(":")
	return Param{Name: name, Set: p.name()}
}

func (p *parser) block() []Stmt {
	var stmts []Stmt
	p.open("{")
	for p.is("if") || p.peek().isName() {
		stmts = append(stmts, p.stmt())
	}
	p.shut("}")
	return stmts
}

func (p *parser) stmt() Stmt {
	if p.accept("if") {
		s := Stmt{IsIf: true, Expr: p.expr(), Then: p.block()}
		if p.accept("else") {
			s.Else = p.block()
		}
		return s
	}
	s := Stmt{Place: p.place()}
	p.expect("=")
	s.Expr = p.expr()
	p.expect(";")
	return s
}

func (p *parser) place() Place {
	place := Place{Name: p.name()}
	if p.is("[") {
		place.Indexed = true
		place.Index = p.inSquare()
	}
	return place
}
