package machine

import (
	"slices"
	"strconv"
	"strings"

	"orbits/syntax"
)

// instance is a rule or never with a member for each of its parameters.
type instance struct {
	Text    string
	machine *Machine
	params  []syntax.Param
	members []int
}

// Step is an instance of a rule.
type Step struct {
	instance
	guard *syntax.Expr
	block []syntax.Stmt
}

// Never is an instance of a never.
type Never struct {
	instance
	expr *syntax.Expr
}

// Outcome is what an instance of a rule comes to in a state.
type Outcome int

const (
	Idle Outcome = iota
	Enabled
	Wrong
)

func (m *Machine) addSteps(model syntax.Model, rule syntax.Rule) {
	for _, one := range m.instances(model, rule.Name, rule.Params) {
		m.Steps = append(m.Steps, Step{instance: one, guard: rule.Guard, block: rule.Block})
	}
}

func (m *Machine) addNevers(model syntax.Model, never syntax.Never) {
	for _, one := range m.instances(model, never.Name, never.Params) {
		m.Nevers = append(m.Nevers, Never{instance: one, expr: never.Expr})
	}
}

func (m *Machine) instances(model syntax.Model, name syntax.Name, params []syntax.Param) []instance {
	var all []instance
	for _, members := range choices(model, params) {
		all = append(all, instance{Text: instanceText(name, members), machine: m, params: params, members: members})
	}
	return all
}

// choices has the members of later parameters change first: so they come in the order of instances.
func choices(model syntax.Model, params []syntax.Param) [][]int {
	all := [][]int{nil}
	for _, param := range params {
		var longer [][]int
		for _, chosen := range all {
			for member := range setSize(model, param.Set) {
				longer = append(longer, append(slices.Clone(chosen), member))
			}
		}
		all = longer
	}
	return all
}

func instanceText(name syntax.Name, members []int) string {
	var texts []string
	for _, member := range members {
		texts = append(texts, strconv.Itoa(member))
	}
	return name.Text + "(" + strings.Join(texts, ",") + ")"
}

// From tells what the instance comes to in a state and, if it is enabled, the state behind it, which is new.
func (s Step) From(state State) (State, Outcome) {
	r := run{instance: s.instance, state: slices.Clone(state)}
	isTrue := r.isTrue(s.guard)
	if isTrue {
		r.do(s.block)
	}
	switch {
	case r.wrong:
		return nil, Wrong
	case isTrue:
		return r.state, Enabled
	}
	return nil, Idle
}

// IsBroken tells whether the expression is true in a state, or goes wrong.
func (n Never) IsBroken(state State) bool {
	r := run{instance: n.instance, state: state}
	isTrue := r.isTrue(n.expr)
	return isTrue || r.wrong
}
