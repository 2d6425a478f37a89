// Package machine runs a model that was found right: its states, and what the instances of its rules and nevers do in them.
package machine

import (
	"slices"
	"strconv"
	"strings"

	"orbits/syntax"
)

// State is a row of small numbers, one for each value: a truth is 0 or 1, a number itself, a member of a kind its number there; of a set none is 0, and member 0 is 1. So the first state is a row of 0.
type State []uint8

// Machine is a model with its instances, in their order.
type Machine struct {
	Steps  []Step
	Nevers []Never

	sets  []int
	vars  []variable
	names map[string]meaning
	size  int
}

// variable has its values from first on in a state; texts has the text of each number that a value may be. Over is the number of the set that an array is over, of that of the set whose members the values are.
type variable struct {
	first int
	count int
	texts []string
	over  int
	of    int
}

// noSet is the number of a set where there is none: what a list's index is if nothing is found.
const noSet = -1

// meaning is what a name stands for in every rule and never: a variable, by its number among them, or a member, by its number in its kind.
type meaning struct {
	isVar  bool
	number int
}

// New makes a machine of a model that has no error: what its names and types are is not asked again.
func New(model syntax.Model) *Machine {
	m := &Machine{names: map[string]meaning{}}
	for _, set := range model.Sets {
		m.sets = append(m.sets, set.Size.Value)
	}
	for _, kind := range model.Kinds {
		for i, member := range kind.Members {
			m.names[member.Text] = meaning{number: i}
		}
	}
	for i, v := range model.Vars {
		m.names[v.Name.Text] = meaning{isVar: true, number: i}
		m.addVar(model, v)
	}
	for _, rule := range model.Rules {
		m.addSteps(model, rule)
	}
	for _, never := range model.Nevers {
		m.addNevers(model, never)
	}
	return m
}

func (m *Machine) addVar(model syntax.Model, v syntax.Var) {
	count := 1
	if v.IsArray {
		count = setSize(model, v.Over)
	}
	m.vars = append(m.vars, variable{first: m.size, count: count, texts: valueTexts(model, v.Simple), over: setNumber(model, v.Over), of: setNumber(model, v.Simple.Name)})
	m.size += count
}

func setSize(model syntax.Model, name syntax.Name) int {
	return model.Sets[setNumber(model, name)].Size.Value
}

// setNumber is noSet if the name is that of a kind, or empty.
func setNumber(model syntax.Model, name syntax.Name) int {
	return slices.IndexFunc(model.Sets, func(set syntax.Set) bool { return set.Name.Text == name.Text })
}

func valueTexts(model syntax.Model, simple syntax.Simple) []string {
	switch simple.Form {
	case syntax.Bool:
		return numberTexts(2)
	case syntax.To:
		return numberTexts(simple.Top.Value + 1)
	}
	for _, kind := range model.Kinds {
		if kind.Name.Text == simple.Name.Text {
			return memberTexts(kind)
		}
	}
	return append([]string{"-"}, numberTexts(setSize(model, simple.Name))...)
}

func numberTexts(count int) []string {
	var texts []string
	for i := range count {
		texts = append(texts, strconv.Itoa(i))
	}
	return texts
}

func memberTexts(kind syntax.Kind) []string {
	var texts []string
	for _, member := range kind.Members {
		texts = append(texts, member.Text)
	}
	return texts
}

// First is the state in which nothing was done yet.
func (m *Machine) First() State { return make(State, m.size) }

// Text is the text of a state.
func (m *Machine) Text(state State) string {
	var b strings.Builder
	for i, v := range m.vars {
		if i > 0 {
			b.WriteByte(' ')
		}
		v.write(&b, state)
	}
	return b.String()
}

func (v variable) write(b *strings.Builder, state State) {
	if v.over == noSet {
		b.WriteString(v.texts[state[v.first]])
		return
	}
	b.WriteByte('[')
	for i := range v.count {
		if i > 0 {
			b.WriteByte(' ')
		}
		b.WriteString(v.texts[state[v.first+i]])
	}
	b.WriteByte(']')
}
