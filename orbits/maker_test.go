package orbits_test

import (
	"math/rand/v2"
	"strconv"
	"strings"

	"orbits/api"
	"orbits/orbits"
)

// maker makes models without error, of each type and each form, and always the same ones of the same number. A calm one has few indexes that may be none.
type maker struct {
	*rand.Rand
	sets  []string
	kinds map[string][]string
	vars  []declared
	bound [][2]string
	calm  bool
}

func (m *maker) one(of ...string) string { return of[m.IntN(len(of))] }

// modelOf is one of the models that are short enough.
func modelOf(number uint64) string {
	return firstThat(number, (*maker).model, func(string) bool { return true })
}

// firstThat is the first model of a form that is short enough, and as it is wanted.
func firstThat(number uint64, form func(*maker) string, isWanted func(text string) bool) string {
	for try := uint64(0); ; try++ {
		m := &maker{Rand: rand.New(rand.NewPCG(number, try)), kinds: map[string][]string{}}
		text := form(m)
		if len(text) > api.MaxText {
			continue
		}
		if e, _ := orbits.Check(text); e != api.OK {
			panic("a model that was to have no error: " + text)
		}
		if isWanted(text) {
			return text
		}
	}
}

func (m *maker) model() string {
	var b strings.Builder
	b.WriteString(m.declarations())
	for i := range 1 + m.IntN(api.MaxRules) {
		b.WriteString("rule r" + string(rune('a'+i)) + m.params() + " if " + m.guard() + " " + m.block(2))
	}
	for i := range m.IntN(api.MaxNevers + 1) {
		b.WriteString("never n" + string(rune('a'+i)) + m.params() + " " + m.expr("bool", 2) + "; ")
	}
	return b.String()
}

func (m *maker) declarations() string {
	var b strings.Builder
	for _, name := range []string{"p", "q"}[:m.IntN(3)] {
		m.sets = append(m.sets, name)
		b.WriteString("set " + name + " " + m.one("2", "3") + "; ")
	}
	for _, name := range []string{"k", "l"}[:m.IntN(3)] {
		members := []string{name + "a", name + "b", name + "c", name + "d"}[:2+m.IntN(3)]
		m.kinds[name] = members
		b.WriteString("kind " + name + " { " + strings.Join(members, ", ") + " } ")
	}
	for i := range 1 + m.IntN(api.MaxVars) {
		b.WriteString(m.variable("v" + string(rune('a'+i))))
	}
	return b.String()
}

func (m *maker) variable(name string) string {
	v := declared{name: name}
	over := ""
	if len(m.sets) > 0 && m.IntN(2) == 0 {
		v.over = m.one(m.sets...)
		over = "[" + v.over + "] "
	}
	types := append([]string{"bool", "to", "to"}, m.sets...)
	types = append(types, m.sets...)
	for _, kind := range []string{"k", "l"}[:len(m.kinds)] {
		types = append(types, kind)
	}
	v.of = m.one(types...)
	simple := v.of
	if v.of == "to" {
		v.top = 1 + m.IntN(api.MaxTop)
		simple += " " + strconv.Itoa(v.top)
	}
	m.vars = append(m.vars, v)
	return "var " + name + " : " + over + simple + "; "
}

func (m *maker) params() string {
	m.bound = nil
	var texts []string
	if len(m.sets) > 0 {
		for _, name := range []string{"i", "j"}[:m.IntN(3)] {
			set := m.one(m.sets...)
			m.bound = append(m.bound, [2]string{name, set})
			texts = append(texts, name+" : "+set)
		}
	}
	return "(" + strings.Join(texts, ", ") + ")"
}

// guard is often true, so that walks go on.
func (m *maker) guard() string {
	if m.IntN(3) == 0 {
		return "true"
	}
	return m.expr("bool", 2)
}

func (m *maker) block(depth int) string {
	var b strings.Builder
	b.WriteString("{ ")
	for range m.IntN(4) {
		b.WriteString(m.stmt(depth))
	}
	return b.String() + "} "
}

func (m *maker) stmt(depth int) string {
	if depth > 0 && m.IntN(4) == 0 {
		text := "if " + m.expr("bool", 1) + " " + m.block(depth-1)
		if m.IntN(2) == 0 {
			text += "else " + m.block(depth-1)
		}
		return text
	}
	v := m.vars[m.IntN(len(m.vars))]
	place, ok := m.place(v)
	if !ok {
		return ""
	}
	value := m.expr(v.of, 2)
	if m.isSet(v.of) && m.IntN(4) == 0 {
		value = m.one("none", "(none)")
	}
	return place + " = " + value + "; "
}

func (m *maker) isSet(of string) bool { return of == "p" || of == "q" }

func (m *maker) place(v declared) (string, bool) {
	if v.over == "" {
		return v.name, true
	}
	var indexes []string
	for _, b := range m.bound {
		if b[1] == v.over {
			indexes = append(indexes, b[0], b[0], b[0])
		}
	}
	for _, o := range m.vars {
		if o.over == "" && o.of == v.over && (!m.calm || m.IntN(12) == 0) {
			indexes = append(indexes, o.name)
		}
	}
	if len(indexes) == 0 {
		return "", false
	}
	return v.name + "[" + m.one(indexes...) + "]", true
}

// values are all that is of a type and has no sign in it.
func (m *maker) values(of string) (all []string) {
	for _, v := range m.vars {
		if place, ok := m.place(v); ok && v.of == of {
			all = append(all, place, place)
		}
	}
	for _, b := range m.bound {
		if b[1] == of {
			all = append(all, b[0])
		}
	}
	switch of {
	case "bool":
		all = append(all, "true", "false")
	case "to":
		all = append(all, "0", "1", "2")
	}
	return append(all, m.kinds[of]...)
}

// expr is none if nothing else is of a set.
func (m *maker) expr(of string, depth int) string {
	values := m.values(of)
	if depth > 0 && (of == "bool" || of == "to") && m.IntN(3) > 0 {
		return m.joined(of, depth-1)
	}
	if len(values) == 0 {
		return "none"
	}
	return m.one(values...)
}

func (m *maker) joined(of string, depth int) string {
	if of == "to" {
		return m.wrapped(m.expr("to", depth) + m.one(" + ", " - ") + m.wrapped(m.expr("to", depth)))
	}
	switch m.IntN(6) {
	case 0:
		return "!(" + m.expr("bool", depth) + ")"
	case 1, 2:
		return "(" + m.expr("bool", depth) + m.one(" & ", " | ") + m.expr("bool", depth) + ")"
	case 3:
		return m.wrapped(m.expr("to", depth) + m.one(" < ", " == ", " != ") + m.expr("to", depth))
	}
	return m.compared(depth)
}

func (m *maker) wrapped(text string) string { return "(" + text + ")" }

func (m *maker) compared(depth int) string {
	types := append([]string{"bool"}, m.sets...)
	types = append(types, m.sets...)
	for _, kind := range []string{"k", "l"}[:len(m.kinds)] {
		types = append(types, kind)
	}
	of := m.one(types...)
	left := m.expr(of, depth)
	if left == "none" {
		return "true"
	}
	right := m.expr(of, depth)
	if m.isSet(of) && m.IntN(3) == 0 {
		right = "none"
	}
	if m.IntN(2) == 0 {
		left, right = right, left
	}
	return "(" + left + m.one(" == ", " != ") + right + ")"
}
