package check

import "orbits/syntax"

type family int

const (
	nothing family = iota
	truth
	number
	ofKind
	ofSet
	isNone
)

// valueType is the type of an expression; name is that of its kind or set.
type valueType struct {
	family family
	name   string
}

// typer works types out. What is wrong within an expression makes all that is around it nothing, so that it comes out where a truth, or the type of a place, must be.
type typer struct {
	names  table
	params []syntax.Param
}

func typesFit(model syntax.Model, names table) bool {
	for _, rule := range model.Rules {
		t := typer{names: names, params: rule.Params}
		if !t.isTruth(rule.Guard) || !t.blockFits(rule.Block) {
			return false
		}
	}
	for _, never := range model.Nevers {
		t := typer{names: names, params: never.Params}
		if !t.isTruth(never.Expr) {
			return false
		}
	}
	return true
}

func (t typer) blockFits(stmts []syntax.Stmt) bool {
	for _, stmt := range stmts {
		if !t.stmtFits(stmt) {
			return false
		}
	}
	return true
}

func (t typer) stmtFits(stmt syntax.Stmt) bool {
	if stmt.IsIf {
		return t.isTruth(stmt.Expr) && t.blockFits(stmt.Then) && t.blockFits(stmt.Else)
	}
	if t.names[stmt.Place.Name.Text].role != varRole {
		return false
	}
	place, value := t.place(stmt.Place), t.expr(stmt.Expr)
	return sameType(place, value) || place.family == ofSet && value.family == isNone
}

func (t typer) isTruth(e *syntax.Expr) bool { return t.expr(e).family == truth }

func (t typer) expr(e *syntax.Expr) valueType {
	switch e.Op {
	case syntax.True, syntax.False:
		return valueType{family: truth}
	case syntax.Number:
		return valueType{family: number}
	case syntax.None:
		return valueType{family: isNone}
	case syntax.Value:
		return t.place(e.Place)
	case syntax.Not:
		return makes(truth, t.expr(e.Left).family == truth)
	}
	return binary(e.Op, t.expr(e.Left), t.expr(e.Right))
}

func binary(op syntax.Op, left, right valueType) valueType {
	switch op {
	case syntax.And, syntax.Or:
		return makes(truth, left.family == truth && right.family == truth)
	case syntax.Plus, syntax.Minus:
		return makes(number, left.family == number && right.family == number)
	case syntax.Less:
		return makes(truth, left.family == number && right.family == number)
	}
	return makes(truth, canCompare(left, right))
}

func makes(f family, fits bool) valueType {
	if fits {
		return valueType{family: f}
	}
	return valueType{}
}

func canCompare(left, right valueType) bool {
	return sameType(left, right) ||
		left.family == ofSet && right.family == isNone ||
		left.family == isNone && right.family == ofSet
}

// sameType is false of none and none: none alone is of no one set.
func sameType(left, right valueType) bool {
	return left == right && left.family != nothing && left.family != isNone
}

func (t typer) place(place syntax.Place) valueType {
	if !place.Indexed {
		return t.single(place.Name)
	}
	array := t.names[place.Name.Text].variable
	if !array.IsArray || !t.isIndex(place.Index, array.Over) {
		return valueType{}
	}
	return t.simple(array.Simple)
}

func (t typer) isIndex(index, set syntax.Name) bool {
	return t.single(index) == valueType{family: ofSet, name: set.Text}
}

func (t typer) single(name syntax.Name) valueType {
	if param, ok := findParam(t.params, name); ok {
		return valueType{family: ofSet, name: param.Set.Text}
	}
	e := t.names[name.Text]
	switch {
	case e.role == memberRole:
		return valueType{family: ofKind, name: e.kind}
	case e.role == varRole && !e.variable.IsArray:
		return t.simple(e.variable.Simple)
	}
	return valueType{}
}

func (t typer) simple(s syntax.Simple) valueType {
	switch s.Form {
	case syntax.Bool:
		return valueType{family: truth}
	case syntax.To:
		return valueType{family: number}
	}
	if t.names[s.Name.Text].role == setRole {
		return valueType{family: ofSet, name: s.Name.Text}
	}
	return valueType{family: ofKind, name: s.Name.Text}
}
