package orbits_test

import (
	"strconv"
	"strings"

	"orbits/api"
)

// livelyOf is a model in which much can come about ahead of what is bad, if anything is: its first state is not bad.
func livelyOf(number uint64) string {
	return firstThat(number, (*maker).lively, func(text string) bool {
		w := readWorld(text)
		hasSet := number%6 == 0 || len(w.sizes) > 0
		return hasSet && !isBad(w.view(w.start()))
	})
}

func (m *maker) lively() string {
	m.calm = true
	var b strings.Builder
	b.WriteString(m.declarations())
	for i := range 2 + m.IntN(api.MaxRules-2) {
		b.WriteString("rule r" + string(rune('a'+i)) + m.change())
	}
	b.WriteString(m.one("", "rule stay() if true { } "))
	for i := range m.IntN(api.MaxNevers) {
		b.WriteString("never n" + string(rune('a'+i)) + m.far() + "; ")
	}
	return b.String()
}

// change is all of a rule behind its name: it changes one variable, and now and then another one.
func (m *maker) change() string {
	v := m.vars[m.IntN(len(m.vars))]
	params := m.paramsFor(v)
	guard, block := m.changed(v)
	if m.IntN(3) == 0 {
		guard += " & " + m.conditions(1)
	}
	if o := m.vars[m.IntN(len(m.vars))]; m.IntN(4) == 0 && (o.over == "" || m.isBound(o.over)) {
		when, then := m.changed(o)
		block += "if " + when + " { " + then + "} "
	}
	return params + " if " + guard + " { " + block + "} "
}

// paramsFor gives a rule the parameters that it takes to change a variable.
func (m *maker) paramsFor(v declared) string {
	m.bound = nil
	if v.over != "" {
		m.bound = append(m.bound, [2]string{"i", v.over})
	}
	if m.isSet(v.of) {
		m.bound = append(m.bound, [2]string{"j", v.of})
	}
	var texts []string
	for _, b := range m.bound {
		texts = append(texts, b[0]+" : "+b[1])
	}
	return "(" + strings.Join(texts, ", ") + ")"
}

func (m *maker) isBound(set string) bool {
	for _, b := range m.bound {
		if b[1] == set {
			return true
		}
	}
	return false
}

// changed is a change of a variable, and what must hold for it; numbers now and then go too far.
func (m *maker) changed(v declared) (guard, block string) {
	place, _ := m.place(v)
	switch {
	case v.of == "bool":
		return m.one("true", place, "!"+place), place + " = !" + place + "; "
	case v.of == "to":
		top := strconv.Itoa(v.top)
		up, down := place+" = "+place+" + 1; ", place+" = "+place+" - 1; "
		switch m.IntN(10) {
		case 0:
			return "true", m.one(up, down)
		case 1, 2, 3:
			return "0 < " + place, m.one(down, place+" = 0; ")
		}
		return place + " < " + top, up
	case m.isSet(v.of):
		return place + m.one(" == ", " == ", " != ") + "none", place + " = " + m.one(m.membersOf(v.of)...) + "; "
	}
	from, to := m.one(m.kinds[v.of]...), m.one(m.kinds[v.of]...)
	return place + m.one(" == ", " != ") + from, place + " = " + to + "; "
}

// far is all of a never behind its name: it takes some steps until it is broken.
func (m *maker) far() string {
	v := m.vars[m.IntN(len(m.vars))]
	params := m.paramsFor(v)
	text := params + " " + m.farValue(v)
	for _, o := range m.vars {
		if m.IntN(2) == 0 && (o.over == "" || m.isBound(o.over)) {
			text += " & " + m.farValue(o)
		}
	}
	return text
}

func (m *maker) farValue(v declared) string {
	place, _ := m.place(v)
	switch {
	case v.of == "bool":
		return place
	case v.of == "to":
		return place + " == " + strconv.Itoa(v.top)
	case m.isSet(v.of):
		return place + " != none"
	}
	return place + " == " + m.kinds[v.of][len(m.kinds[v.of])-1]
}

func (m *maker) membersOf(set string) []string {
	all := []string{"none"}
	for _, b := range m.bound {
		if b[1] == set {
			all = append(all, b[0], b[0], b[0])
		}
	}
	return all
}

func (m *maker) conditions(count int) string {
	var all []string
	for range count {
		all = append(all, m.joined("bool", 0))
	}
	return strings.Join(all, " & ")
}
