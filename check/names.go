package check

import "orbits/syntax"

type role int

const (
	unknown role = iota
	setRole
	kindRole
	memberRole
	varRole
	ruleRole
	neverRole
)

// entry is what a name was given to first, and where. Only a member has a kind, only a variable a variable: so nothing else is taken for an array.
type entry struct {
	role     role
	at       int
	kind     string
	variable syntax.Var
}

// table has all names but those of parameters, which mean something in one rule or never alone.
type table map[string]entry

func (t table) give(name syntax.Name, e entry) {
	if t[name.Text].role == unknown {
		e.at = name.At
		t[name.Text] = e
	}
}

func gather(model syntax.Model) table {
	t := table{}
	for _, set := range model.Sets {
		t.give(set.Name, entry{role: setRole})
	}
	for _, kind := range model.Kinds {
		t.give(kind.Name, entry{role: kindRole})
		for _, member := range kind.Members {
			t.give(member, entry{role: memberRole, kind: kind.Name.Text})
		}
	}
	for _, variable := range model.Vars {
		t.give(variable.Name, entry{role: varRole, variable: variable})
	}
	for _, rule := range model.Rules {
		t.give(rule.Name, entry{role: ruleRole})
	}
	for _, never := range model.Nevers {
		t.give(never.Name, entry{role: neverRole})
	}
	return t
}

// namer goes through a model's names; params are those of the rule or never that it is in.
type namer struct {
	names  table
	params []syntax.Param
	bad    fault
}

func wrongName(model syntax.Model, names table) fault {
	n := namer{names: names}
	for _, set := range model.Sets {
		n.given(set.Name)
	}
	for _, kind := range model.Kinds {
		n.given(kind.Name)
		for _, member := range kind.Members {
			n.given(member)
		}
	}
	for _, variable := range model.Vars {
		n.given(variable.Name)
		n.varType(variable)
	}
	for _, rule := range model.Rules {
		n.given(rule.Name)
		n.enter(rule.Params)
		n.expr(rule.Guard)
		n.block(rule.Block)
	}
	for _, never := range model.Nevers {
		n.given(never.Name)
		n.enter(never.Params)
		n.expr(never.Expr)
	}
	return n.bad
}

func (n *namer) given(name syntax.Name) {
	if n.names[name.Text].at != name.At {
		n.bad.note(name.At)
	}
}

func (n *namer) varType(variable syntax.Var) {
	if variable.IsArray {
		n.set(variable.Over)
	}
	if variable.Simple.Form == syntax.Named {
		n.setOrKind(variable.Simple.Name)
	}
}

func (n *namer) set(name syntax.Name) {
	if n.names[name.Text].role != setRole {
		n.bad.note(name.At)
	}
}

func (n *namer) setOrKind(name syntax.Name) {
	if n.names[name.Text].role != kindRole {
		n.set(name)
	}
}

// enter holds a parameter against the whole table: its name may be given to nothing else, not even behind it.
func (n *namer) enter(params []syntax.Param) {
	n.params = params
	for i, param := range params {
		_, twice := findParam(params[:i], param.Name)
		if twice || n.names[param.Name.Text].role != unknown {
			n.bad.note(param.Name.At)
		}
		n.set(param.Set)
	}
}

func findParam(params []syntax.Param, name syntax.Name) (syntax.Param, bool) {
	for _, param := range params {
		if param.Name.Text == name.Text {
			return param, true
		}
	}
	return syntax.Param{}, false
}

func (n *namer) block(stmts []syntax.Stmt) {
	for _, stmt := range stmts {
		if !stmt.IsIf {
			n.place(stmt.Place)
		}
		n.expr(stmt.Expr)
		n.block(stmt.Then)
		n.block(stmt.Else)
	}
}

func (n *namer) expr(e *syntax.Expr) {
	if e == nil {
		return
	}
	if e.Op == syntax.Value {
		n.place(e.Place)
	}
	n.expr(e.Left)
	n.expr(e.Right)
}

func (n *namer) place(place syntax.Place) {
	n.value(place.Name)
	if place.Indexed {
		n.value(place.Index)
	}
}

func (n *namer) value(name syntax.Name) {
	_, isParam := findParam(n.params, name)
	role := n.names[name.Text].role
	if !isParam && role != memberRole && role != varRole {
		n.bad.note(name.At)
	}
}
