package orbits_test

import (
	"slices"
	"strconv"
	"strings"

	"orbits/api"
)

// world is a model read a second time: it works rules out on the tokens themselves, each time anew, with values as texts. The model has no error.
type world struct {
	pieces []piece
	sizes  map[string]int
	kinds  map[string][]string
	vars   []declared
	parts  []part
}

// declared is a variable: over is the set of an array, of the simple type: bool, to, a kind or a set; top that of to.
type declared struct {
	name, over, of string
	top            int
}

// part is a rule or never; body is the number of the token behind its parameters.
type part struct {
	isRule       bool
	name         string
	params, sets []string
	body         int
}

func readWorld(text string) *world {
	pieces, _ := cut(text)
	w := &world{pieces: pieces, sizes: map[string]int{}, kinds: map[string][]string{}}
	tok := func(i int) string { return pieces[i].text }
	for i := range pieces {
		switch tok(i) {
		case "set":
			w.sizes[tok(i+1)] = int(tok(i + 2)[0] - '0')
		case "kind":
			for j := i + 3; tok(j-1) != "}"; j += 2 {
				w.kinds[tok(i+1)] = append(w.kinds[tok(i+1)], tok(j))
			}
		case "var":
			v := declared{name: tok(i + 1)}
			j := i + 3
			if tok(j) == "[" {
				v.over = tok(j + 1)
				j += 3
			}
			v.of = tok(j)
			if v.of == "to" {
				v.top = int(tok(j + 1)[0] - '0')
			}
			w.vars = append(w.vars, v)
		case "rule", "never":
			p := part{isRule: tok(i) == "rule", name: tok(i + 1)}
			j := i + 3
			for ; tok(j) != ")"; j++ {
				if tok(j+1) == ":" {
					p.params = append(p.params, tok(j))
					p.sets = append(p.sets, tok(j+2))
				}
			}
			p.body = j + 1
			w.parts = append(w.parts, p)
		}
	}
	return w
}

// position is a state: the value of x, or of x[0] and so on.
type position map[string]string

func (w *world) start() position {
	s := position{}
	for _, v := range w.vars {
		for _, key := range w.keys(v) {
			switch {
			case v.of == "bool":
				s[key] = "false"
			case v.of == "to":
				s[key] = "0"
			case w.sizes[v.of] > 0:
				s[key] = "-"
			default:
				s[key] = w.kinds[v.of][0]
			}
		}
	}
	return s
}

func (w *world) keys(v declared) (keys []string) {
	if v.over == "" {
		return []string{v.name}
	}
	for i := range w.sizes[v.over] {
		keys = append(keys, v.name+"["+strconv.Itoa(i)+"]")
	}
	return keys
}

func (w *world) text(s position) string {
	var all []string
	for _, v := range w.vars {
		var values []string
		for _, key := range w.keys(v) {
			value := s[key]
			if v.of == "bool" {
				value = map[string]string{"false": "0", "true": "1"}[value]
			}
			values = append(values, value)
		}
		one := strings.Join(values, " ")
		if v.over != "" {
			one = "[" + one + "]"
		}
		all = append(all, one)
	}
	return strings.Join(all, " ")
}

// ground is an instance, as its text, with what each parameter stands for.
type ground struct {
	part
	text string
	bind map[string]string
}

func (w *world) instances(rules bool) (all []ground) {
	for _, p := range w.parts {
		if p.isRule != rules {
			continue
		}
		switch len(p.params) {
		case 0:
			all = append(all, ground{p, p.name + "()", nil})
		case 1:
			for i := range w.sizes[p.sets[0]] {
				a := strconv.Itoa(i)
				all = append(all, ground{p, p.name + "(" + a + ")", map[string]string{p.params[0]: a}})
			}
		case 2:
			for i := range w.sizes[p.sets[0]] {
				for j := range w.sizes[p.sets[1]] {
					a, b := strconv.Itoa(i), strconv.Itoa(j)
					all = append(all, ground{p, p.name + "(" + a + "," + b + ")", map[string]string{p.params[0]: a, p.params[1]: b}})
				}
			}
		}
	}
	return all
}

// reader stands on a token of a rule or never and works out what it reads.
type reader struct {
	*world
	at    int
	bind  map[string]string
	state position
	wrong bool
}

func (r *reader) tok() string { return r.pieces[r.at].text }

func (r *reader) take() string {
	r.at++
	return r.pieces[r.at-1].text
}

var signs = [][]string{{"|"}, {"&"}, {"==", "!=", "<"}, {"+", "-"}}

func (r *reader) expr(level int) string {
	if level == len(signs) {
		return r.atom()
	}
	left := r.expr(level + 1)
	for slices.Contains(signs[level], r.tok()) {
		sign := r.take()
		left = apply(left, sign, r.expr(level+1))
	}
	return left
}

func apply(left, sign, right string) string {
	a, _ := strconv.Atoi(left)
	b, _ := strconv.Atoi(right)
	switch sign {
	case "|":
		return strconv.FormatBool(left == "true" || right == "true")
	case "&":
		return strconv.FormatBool(left == "true" && right == "true")
	case "==":
		return strconv.FormatBool(left == right)
	case "!=":
		return strconv.FormatBool(left != right)
	case "<":
		return strconv.FormatBool(a < b)
	case "+":
		return strconv.Itoa(a + b)
	}
	return strconv.Itoa(a - b)
}

func (r *reader) atom() string {
	switch tok := r.tok(); {
	case tok == "!":
		r.take()
		return strconv.FormatBool(r.atom() == "false")
	case tok == "(":
		r.take()
		value := r.expr(0)
		r.take()
		return value
	case tok == "none":
		r.take()
		return "-"
	case tok == "true" || tok == "false" || isOneDigit(tok):
		return r.take()
	}
	if value, isValue := r.state[r.key()]; isValue {
		return value
	}
	// What is no place of a variable is a parameter, a member, or an index that is none.
	if r.pieces[r.at-1].text == "]" {
		r.wrong = true
		return ""
	}
	return r.plain(r.pieces[r.at-1].text)
}

func (r *reader) plain(name string) string {
	if member, isParam := r.bind[name]; isParam {
		return member
	}
	if value, isVar := r.state[name]; isVar {
		return value
	}
	return name
}

// key reads a place, and is no key of a state if its index is none.
func (r *reader) key() string {
	name := r.take()
	if r.tok() != "[" {
		return name
	}
	r.take()
	index := r.plain(r.take())
	r.take()
	return name + "[" + index + "]"
}

// block works statements out from { to }, until one goes wrong.
func (r *reader) block() {
	r.take()
	for r.tok() != "}" && !r.wrong {
		if r.tok() == "if" {
			r.choice()
		} else {
			r.setting()
		}
	}
	r.take()
}

func (r *reader) choice() {
	r.take()
	holds := r.expr(0) == "true"
	if r.wrong {
		return
	}
	r.branch(holds)
	if r.wrong {
		return
	}
	if r.tok() == "else" {
		r.take()
		r.branch(!holds)
	}
}

func (r *reader) branch(isTaken bool) {
	if isTaken {
		r.block()
		return
	}
	depth := 0
	for {
		switch r.take() {
		case "{":
			depth++
		case "}":
			depth--
		}
		if depth == 0 {
			return
		}
	}
}

func (r *reader) setting() {
	name := r.tok()
	key := r.key()
	r.take()
	value := r.expr(0)
	r.take()
	if _, isPlace := r.state[key]; !isPlace {
		r.wrong = true
	}
	for _, v := range r.vars {
		if n, _ := strconv.Atoi(value); v.name == name && v.of == "to" && (n < 0 || n > v.top) {
			r.wrong = true
		}
	}
	if !r.wrong {
		r.state[key] = value
	}
}

func clone(s position) position {
	c := position{}
	for key, value := range s {
		c[key] = value
	}
	return c
}

// makes tells whether an instance of a rule goes wrong, and what it makes of a state, if it is enabled.
func (w *world) makes(g ground, s position) (next position, wrong bool) {
	r := &reader{world: w, at: g.body + 1, bind: g.bind, state: clone(s)}
	holds := r.expr(0) == "true"
	if holds && !r.wrong {
		r.block()
	}
	if r.wrong || !holds {
		return nil, r.wrong
	}
	return r.state, false
}

func (w *world) view(s position) (v api.View) {
	v.Text = w.text(s)
	for _, g := range w.instances(true) {
		next, wrong := w.makes(g, s)
		if wrong {
			v.Wrong = append(v.Wrong, g.text)
		} else if next != nil {
			v.Enabled = append(v.Enabled, g.text)
		}
	}
	for _, g := range w.instances(false) {
		r := &reader{world: w, at: g.body, bind: g.bind, state: s}
		if value := r.expr(0); r.wrong || value == "true" {
			v.Broken = append(v.Broken, g.text)
		}
	}
	v.Dead = len(v.Enabled)+len(v.Wrong) == 0
	return v
}

func (w *world) step(s position, text string) position {
	for _, g := range w.instances(true) {
		if g.text == text {
			next, _ := w.makes(g, s)
			return next
		}
	}
	return nil
}
