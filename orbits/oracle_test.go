package orbits_test

import (
	"regexp"
	"slices"
	"strings"
	"testing"

	"orbits/api"
	"orbits/orbits"
)

// This file reads models a second time, in another way than the program does: the document's grammar as a table, with the rows of symbols that may still follow; and names by the tokens that stand around them.

var grammar = map[string][]string{
	"MODEL": {"SETS KINDS VAR VARS RULE RULES NEVERS"},
	"SETS":  {"", "SET SETS"}, "KINDS": {"", "KIND KINDS"}, "VARS": {"", "VAR VARS"}, "RULES": {"", "RULE RULES"}, "NEVERS": {"", "NEVER NEVERS"},
	"SET":    {"set NAME DIGIT ;"},
	"KIND":   {"kind NAME { NAME , NAME MORE }"},
	"MORE":   {"", ", NAME MORE"},
	"VAR":    {"var NAME : SIMPLE ;", "var NAME : [ NAME ] SIMPLE ;"},
	"SIMPLE": {"bool", "to DIGIT", "NAME"},
	"RULE":   {"rule NAME ( PARAMS ) if EXPR BLOCK"},
	"NEVER":  {"never NAME ( PARAMS ) EXPR ;"},
	"PARAMS": {"", "NAME : NAME PMORE"},
	"PMORE":  {"", ", NAME : NAME PMORE"},
	"BLOCK":  {"{ STMTS }"},
	"STMTS":  {"", "STMT STMTS"},
	"STMT":   {"PLACE = EXPR ;", "if EXPR BLOCK ELSE"},
	"ELSE":   {"", "else BLOCK"},
	"PLACE":  {"NAME", "NAME [ NAME ]"},
	"EXPR":   {"AND ORS"},
	"ORS":    {"", "| AND ORS"},
	"AND":    {"CMP ANDS"},
	"ANDS":   {"", "& CMP ANDS"},
	"CMP":    {"SUM SIDE"},
	"SIDE":   {"", "== SUM", "!= SUM", "< SUM"},
	"SUM":    {"ATOM SUMS"},
	"SUMS":   {"", "+ ATOM SUMS", "- ATOM SUMS"},
	"ATOM":   {"! ATOM", "( EXPR )", "true", "false", "none", "DIGIT", "PLACE"},
}

var tokenForm = regexp.MustCompile(`^(?:[a-z]+|==|!=|[0-9]|[][(){}:;,!&|+<=-])`)
var reservedWords = strings.Fields("set kind var bool to rule if else never true false none")

type piece struct {
	text, class string
	at          int
}

func cut(text string) (pieces []piece, bad int) {
	for at := 0; at < len(text); {
		if text[at] == ' ' || text[at] == '\n' {
			at++
			continue
		}
		tok := tokenForm.FindString(text[at:])
		twoDigits := at+1 < len(text) && isOneDigit(text[at:at+1]) && isOneDigit(text[at+1:at+2])
		if tok == "" || twoDigits {
			return nil, at
		}
		pieces = append(pieces, piece{tok, class(tok), at})
		at += len(tok)
	}
	return pieces, -1
}

func isOneDigit(s string) bool { return s >= "0" && s <= "9" && len(s) == 1 }

func class(tok string) string {
	switch {
	case isOneDigit(tok):
		return "DIGIT"
	case tok[0] >= 'a' && tok[0] <= 'z' && !slices.Contains(reservedWords, tok):
		return "NAME"
	}
	return tok
}

// spread puts what may stand for the first symbol of a row in its place, until the first one is a token.
func spread(row string, into map[string]int) {
	first, rest, _ := strings.Cut(row, " ")
	ways, isRule := grammar[first]
	if !isRule {
		into[row] = 1
		return
	}
	for _, way := range ways {
		spread(strings.TrimSpace(way+" "+rest), into)
	}
}

// badSyntax is -1 of a whole model.
func badSyntax(pieces []piece, length int) int {
	rows := map[string]int{}
	spread("MODEL", rows)
	depth, nots := 0, 0
	for _, p := range pieces {
		depth, nots = nesting(p.text, depth, nots)
		next := map[string]int{}
		for row := range rows {
			first, rest, _ := strings.Cut(row, " ")
			if first == p.class {
				spread(rest, next)
			}
		}
		if len(next) == 0 || depth > api.MaxNest || nots > api.MaxNest {
			return p.at
		}
		rows = next
	}
	if _, whole := rows[""]; !whole {
		return length
	}
	return -1
}

func nesting(tok string, depth, nots int) (int, int) {
	switch tok {
	case "(", "[", "{":
		return depth + 1, 0
	case ")", "]", "}":
		return depth - 1, 0
	case "!":
		return depth, nots + 1
	}
	return depth, 0
}

// mention is a NAME of a model: what it is given to, or as what it is used; part is the number of its rule or never.
type mention struct {
	piece
	how  string
	part int
}

// mentions tells what each NAME of a whole model is for.
func mentions(pieces []piece) (all []mention) {
	how, part, inHead := "", 0, false
	for i, p := range pieces {
		switch p.text {
		case "set", "kind", "var", "rule", "never":
			how = p.text
			part++
			inHead = true
			continue
		case ")":
			inHead = false
		}
		if p.class != "NAME" {
			continue
		}
		all = append(all, mention{p, howMeant(how, pieces[i-1].text, inHead), part})
	}
	return all
}

func howMeant(how, ahead string, inHead bool) string {
	switch {
	case ahead == how:
		return how
	case how == "kind":
		return "member"
	case how == "var" && ahead == "[":
		return "in set"
	case how == "var":
		return "in type"
	case inHead && ahead == ":":
		return "in set"
	case inHead:
		return "param"
	}
	return "in value"
}

var mostOf = map[string]int{"set": api.MaxSets, "kind": api.MaxKinds, "member": api.MaxMembers, "var": api.MaxVars, "rule": api.MaxRules, "never": api.MaxNevers, "param": api.MaxParams}

func badMany(pieces []piece, all []mention) int {
	least := -1
	note := func(at int) {
		if least < 0 || at < least {
			least = at
		}
	}
	for i, m := range all {
		ahead := 0
		for _, o := range all[:i] {
			local := m.how == "member" || m.how == "param"
			if o.how == m.how && (!local || o.part == m.part) {
				ahead++
			}
		}
		if most, isGiven := mostOf[m.how]; isGiven && ahead >= most {
			note(m.at)
		}
	}
	for i, p := range pieces {
		ofSet := i >= 2 && pieces[i-2].text == "set" && (p.text < "2" || p.text > "3")
		ofTo := i >= 1 && pieces[i-1].text == "to" && (p.text < "1" || p.text > "3")
		if p.class == "DIGIT" && (ofSet || ofTo) {
			note(p.at)
		}
	}
	return least
}

func badName(all []mention) int {
	for i, m := range all {
		if _, isGiven := mostOf[m.how]; isGiven && !mayBeGiven(all, i) || !isGiven && !isMeant(all, m) {
			return m.at
		}
	}
	return -1
}

func mayBeGiven(all []mention, i int) bool {
	m := all[i]
	for j, o := range all {
		if _, isGiven := mostOf[o.how]; !isGiven || o.text != m.text || i == j {
			continue
		}
		if j < i && (o.how != "param" || o.part == m.part) || m.how == "param" && o.how != "param" {
			return false
		}
	}
	return true
}

func isMeant(all []mention, m mention) bool {
	for _, o := range all {
		if o.text != m.text {
			continue
		}
		switch m.how + "/" + o.how {
		case "in set/set", "in type/set", "in type/kind", "in value/member", "in value/var":
			return true
		case "in value/param":
			if o.part == m.part {
				return true
			}
		}
	}
	return false
}

// expected tells all errors of a text but ErrType; of a text with none of them it answers OK.
func expected(text string) (api.Errno, int) {
	if len(text) > api.MaxText {
		return api.ErrLong, 0
	}
	pieces, bad := cut(text)
	if bad >= 0 {
		return api.ErrToken, bad
	}
	if bad := badSyntax(pieces, len(text)); bad >= 0 {
		return api.ErrSyntax, bad
	}
	all := mentions(pieces)
	if bad := badMany(pieces, all); bad >= 0 {
		return api.ErrMany, bad
	}
	if bad := badName(all); bad >= 0 {
		return api.ErrName, bad
	}
	return api.OK, 0
}

func compare(t *testing.T, text string) api.Errno {
	t.Helper()
	e, at := expected(text)
	gotE, gotAt := orbits.Check(text)
	typeOnly := e == api.OK && gotE == api.ErrType && gotAt == 0
	if !typeOnly && (gotE != e || gotAt != at) {
		t.Errorf("P3: Check(%q) = %d, %d, want %d, %d", text, gotE, gotAt, e, at)
	}
	return gotE
}

var spare = strings.Fields("set kind var bool to rule if else never true false none ( ) [ ] { } : ; , ! & | + - < = == != 0 1 2 3 4 p x i r zz")

// changed calls visit with the text in which the bytes from at on, n of them, make room for one more token.
func changed(text string, at, n int, visit func(string)) {
	for _, tok := range append(spare, "") {
		visit(text[:at] + " " + tok + " " + text[at+n:])
	}
}

func TestP3AgainstSecondReading(t *testing.T) {
	seen := map[api.Errno]int{}
	visit := func(text string) { seen[compare(t, text)]++ }
	small := "set p 2; kind k { a, b } var x : [p] k; var y : bool; var z : p; rule r(i : p, j : p) if !y | x[i] == a & (z != none) { x[j] = b; if y { z = i; } else { y = 1 + 2 < 3 - 1; } } rule s() if y { y = z == none; } never n(i : p) x[i] == b;"
	for _, base := range []string{small, mutex, full} {
		pieces, _ := cut(base)
		for _, p := range pieces {
			visit(base[:p.at])
			visit(base[:p.at] + base[p.at:p.at+len(p.text)] + base[p.at:])
			if base == full {
				changed(base, p.at, len(p.text), visit)
				continue
			}
			changed(base, p.at, 0, visit)
			changed(base, p.at, len(p.text), visit)
		}
	}
	for _, e := range []api.Errno{api.OK, api.ErrSyntax, api.ErrMany, api.ErrName, api.ErrType} {
		if seen[e] == 0 {
			t.Errorf("no text with error %d among %v", e, seen)
		}
	}
}

func TestP3NamesAgainstSecondReading(t *testing.T) {
	names := strings.Fields("p q k a b v w x r s n m i j zz")
	texts := []string{full, mutex, rich("v == i", "w[i] = v;") + " rule s(i : q) if m == a { } never t(i : p) v == i;"}
	for _, base := range texts {
		pieces, _ := cut(base)
		for _, p := range pieces {
			if p.class != "NAME" {
				continue
			}
			for _, o := range pieces {
				if o.class == "NAME" && !slices.Contains(names, o.text) {
					names = append(names, o.text)
				}
			}
			for _, name := range names {
				compare(t, base[:p.at]+name+base[p.at+len(p.text):])
			}
		}
	}
}
