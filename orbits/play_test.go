package orbits_test

import (
	"slices"
	"strings"
	"testing"

	"orbits/api"
	"orbits/orbits"
)

// seen is a View with its lists as texts that have blanks in between.
type seen struct {
	text, enabled, wrong, broken string
	dead                         bool
}

func asSeen(v api.View) seen {
	line := func(list []string) string { return strings.Join(list, " ") }
	return seen{v.Text, line(v.Enabled), line(v.Wrong), line(v.Broken), v.Dead}
}

func wantSeen(t *testing.T, model, steps string, want seen) {
	t.Helper()
	v, e, at := orbits.Play(model, strings.Fields(steps))
	if e != api.OK || at != 0 || asSeen(v) != want {
		t.Errorf("P4: Play(%q, %q) = %+v, %d, %d, want %+v", model, steps, asSeen(v), e, at, want)
	}
}

func wantStop(t *testing.T, model string, steps []string, e api.Errno, at int) {
	t.Helper()
	v, gotE, gotAt := orbits.Play(model, steps)
	if gotE != e || gotAt != at {
		t.Errorf("P4: Play(%q, %.300q) = %d, %d, want %d, %d", model, steps, gotE, gotAt, e, at)
	}
	if asSeen(v) != (seen{}) {
		t.Errorf("P1: Play(%q, %.300q) = %+v beside error %d", model, steps, v, gotE)
	}
}

// wantOne asks what the rule r() of a model is at first: enabled, wrong, or neither.
func wantOne(t *testing.T, model, how string) {
	t.Helper()
	v, e, at := orbits.Play(model, nil)
	got := "idle"
	switch {
	case slices.Contains(v.Enabled, "r()"):
		got = "enabled"
	case slices.Contains(v.Wrong, "r()"):
		got = "wrong"
	}
	if e != api.OK || at != 0 || got != how || slices.Contains(v.Enabled, "r()") && slices.Contains(v.Wrong, "r()") {
		t.Errorf("P4: %q: r() is %s (%+v, %d, %d), want %s", model, got, v, e, at, how)
	}
}

func TestP4DocumentExamples(t *testing.T) {
	wantSeen(t, mutex, "", seen{text: "[idle idle idle] -", enabled: "ask(0) ask(1) ask(2)"})
	wantSeen(t, mutex, "ask(1) get(1)", seen{text: "[idle crit idle] 1", enabled: "ask(0) ask(2) put(1)"})
	wantStop(t, mutex, []string{"get(0)"}, api.ErrStep, 0)
	free := strings.Replace(mutex, " & own == none", "", 1)
	wantSeen(t, free, "ask(0) get(0) ask(1) get(1)", seen{text: "[crit crit idle] 1", enabled: "ask(2) put(0) put(1)", broken: "both(0,1) both(1,0)"})
	kept := strings.Replace(mutex, "own = none;", "", 1)
	wantSeen(t, kept, "ask(0) get(0) put(0) ask(0) ask(1) ask(2)", seen{text: "[busy busy busy] 0", dead: true})
	wantSeen(t, "var x : to 1; rule up() if true { x = x + 1; }", "up()", seen{text: "1", wrong: "up()"})
	wantSeen(t, "set s 2; var v : s; var a : [s] bool; rule r() if a[v] { }", "", seen{text: "- [0 0]", wrong: "r()"})
}

func TestP4FirstState(t *testing.T) {
	rest := " rule r() if false { }"
	for _, c := range []struct{ vars, text string }{
		{"var x : bool;", "0"},
		{"var x : to 3;", "0"},
		{"kind k { b, a } var x : k;", "b"},
		{"set p 3; var x : p;", "-"},
		{"set p 3; var x : [p] bool;", "[0 0 0]"},
		{"set p 2; var x : [p] to 1;", "[0 0]"},
		{"set p 3; set q 2; var x : [q] p; var y : [p] q;", "[- -] [- - -]"},
		{"set p 2; kind k { a, b } kind l { dd, c, e, f } var w : [p] l; var x : k; var y : l; var z : bool;", "[dd dd] a dd 0"},
	} {
		wantSeen(t, c.vars+rest, "", seen{text: c.text, dead: true})
		v, e, at := orbits.Play(c.vars+rest, []string{})
		if e != api.OK || at != 0 || v.Text != c.text {
			t.Errorf("P4: Play(%q, no steps) = %+v, %d, %d", c.vars+rest, v, e, at)
		}
	}
}

func TestP4TextOfState(t *testing.T) {
	model := "set p 3; kind k { a, bb, c } var b : bool; var m : [p] k; var w : [p] p; var n : [p] to 3; " +
		"rule r(i : p, j : p) if true { b = true; m[i] = c; w[j] = i; n[i] = 3; } rule s(i : p) if true { m[i] = bb; n[i] = n[i] - 1; w[i] = none; b = false; }"
	enabled := "r(0,0) r(0,1) r(0,2) r(1,0) r(1,1) r(1,2) r(2,0) r(2,1) r(2,2)"
	wantSeen(t, model, "r(2,0)", seen{text: "1 [a a c] [2 - -] [0 0 3]", enabled: enabled + " s(2)", wrong: "s(0) s(1)"})
	wantSeen(t, model, "r(2,0) r(0,1) s(2)", seen{text: "0 [c a bb] [2 0 -] [3 0 2]", enabled: enabled + " s(0) s(2)", wrong: "s(1)"})
	wantSeen(t, model, "r(1,1) s(1) s(1) s(1)", seen{text: "0 [a bb a] [- - -] [0 0 0]", enabled: enabled, wrong: "s(0) s(1) s(2)"})
}

func TestP4MostSteps(t *testing.T) {
	flip := "var x : bool; rule flip() if true { x = !x; } rule off() if x { x = false; }"
	row := func(n int) []string { return slices.Repeat([]string{"flip()"}, n) }
	for n := range 61 {
		text, enabled := "0", "flip()"
		if n%2 == 1 {
			text, enabled = "1", "flip() off()"
		}
		wantSeen(t, flip, strings.Join(row(n), " "), seen{text: text, enabled: enabled})
	}
	for n := range 60 {
		bad := row(60)
		bad[n] = "off(0)"
		wantStop(t, flip, bad, api.ErrStep, n)
	}
	wantStop(t, flip, append(row(59), "off"), api.ErrStep, 59)
	wantStop(t, flip, row(61), api.ErrArg, 0)
	wantStop(t, flip, append([]string{"x"}, row(60)...), api.ErrArg, 0)
	wantStop(t, flip, row(100000), api.ErrArg, 0)
}

func TestP4TextsThatAreNoInstance(t *testing.T) {
	model := "set p 2; set q 3; var x : bool; rule a() if true { } rule b(i : p) if true { } rule c(i : p, j : q) if true { } never d() x; never e(i : p) x;"
	for _, text := range []string{
		"", " ", "()", "a", "a(", "a)", "a()(", "a() ", " a()", "a ()", "a( )", "a()\n", "a()\x00", "A()", "a(0)", "a(,)", "aa()", "\xff",
		"b", "b()", "b(", "b(0", "b0", "b[0]", "b(0))", "b(2)", "b(3)", "b(-1)", "b(+1)", "b(00)", "b(01)", "b( 0)", "b(0 )", "b(0,)", "b(0,0)", "b(,0)", "b(i)", "b(0.)", "b(١)", "b(-)", "b(none)",
		"c(0)", "c()", "c(0,)", "c(,)", "c(0,3)", "c(2,0)", "c(0, 0)", "c(0,0,0)", "c(0;0)", "c(00)", "c(0,0)c(0,0)",
		"d()", "e(0)", "x", "i", "rule a()", "z()", strings.Repeat("a", 100000),
	} {
		wantStop(t, model, []string{text}, api.ErrStep, 0)
		wantStop(t, model, []string{"a()", "c(1,2)", "b(1)", text, "a()", text}, api.ErrStep, 3)
	}
	wantSeen(t, model, "a() b(0) b(1) c(0,0) c(1,2)", seen{text: "0", enabled: "a() b(0) b(1) c(0,0) c(0,1) c(0,2) c(1,0) c(1,1) c(1,2)"})
}

func TestP4StepsThatCannotBe(t *testing.T) {
	for _, c := range []struct {
		steps string
		at    int
	}{
		{"get(0)", 0}, {"put(2)", 0}, {"ask(0) ask(0)", 1}, {"ask(0) get(1)", 1}, {"ask(0) get(0) get(0)", 2}, {"ask(0) ask(1) get(1) get(0)", 3},
		{"ask(0) get(0) put(0) put(0)", 3}, {"ask(0) put(0) ask(0) ask(3)", 1}, {"ask(3) ask(0) ask(0)", 0},
	} {
		wantStop(t, mutex, strings.Fields(c.steps), api.ErrStep, c.at)
	}
	climb := "var x : to 2; rule up() if true { x = x + 1; } rule down() if true { x = x - 1; } rule end() if x == 2 { x = 0; }"
	wantStop(t, climb, strings.Fields("down()"), api.ErrStep, 0)
	wantStop(t, climb, strings.Fields("up() up() up()"), api.ErrStep, 2)
	wantStop(t, climb, strings.Fields("up() up() end() down() up()"), api.ErrStep, 3)
	wantSeen(t, climb, "up() up() end() up() down()", seen{text: "0", enabled: "up()", wrong: "down()"})
}

func TestP4NumbersLeaveTheirRange(t *testing.T) {
	digits := "0123"
	for top := 1; top <= api.MaxTop; top++ {
		for value := -9; value <= 18; value++ {
			how := "wrong"
			if value >= 0 && value <= top {
				how = "enabled"
			}
			sum := "9 - 9"
			if value < 0 {
				sum += " - " + string(rune('0'-value))
			} else {
				sum = string(rune('0'+value-value/2)) + " + " + string(rune('0'+value/2))
			}
			wantOne(t, "var x : to "+digits[top:top+1]+"; rule r() if true { x = "+sum+"; }", how)
			v, e, _ := orbits.Play("set p 2; var x : [p] to "+digits[top:top+1]+"; rule r(i : p) if true { x[i] = "+sum+"; }", nil)
			if e != api.OK || how == "wrong" && len(v.Wrong) != 2 || how == "enabled" && len(v.Enabled) != 2 {
				t.Errorf("P4: %s to an array of to %d: %+v, %d", sum, top, v, e)
			}
		}
	}
	number := func(guard, body string) string { return "var x : to 1; rule r() if " + guard + " { " + body + " }" }
	wantOne(t, number("9 + 9 + 9 - 9 - 9 - 9 == 0", ""), "enabled")
	wantOne(t, number("0 - 9 - 9 < 0 - 9 - 8", ""), "enabled")
	wantOne(t, number("0 - 1 < 0", ""), "enabled")
	wantOne(t, number("x - 1 == 0 - 1", "x = x - 9 + 9;"), "enabled")
	wantOne(t, number("true", "x = (0 - 5) + 6;"), "enabled")
	wantOne(t, number("true", "x = 2; x = 0;"), "wrong")
	wantOne(t, number("true", "x = x + 1; x = x + 1;"), "wrong")
	wantOne(t, number("true", "x = x + 1; x = x - 1; x = x + 1;"), "enabled")
	wantOne(t, number("false", "x = 2;"), "idle")
	wantOne(t, number("true", "if false { x = 2; }"), "enabled")
	wantOne(t, number("true", "if x == 0 { x = 2; }"), "wrong")
	wantOne(t, number("true", "if true { x = 1; } else { x = 2; }"), "enabled")
	wantOne(t, number("true", "if false { x = 1; } else { x = 2; }"), "wrong")
	long := strings.Repeat("9+", 180) + "9" + strings.Repeat("-9", 181)
	wantOne(t, number(long+"==0", ""), "enabled")
}

// missing is a model whose v is none, and whose rule r() has this guard and this body.
func missing(guard, body string) string {
	return "set p 2; var v : p; var a : [p] bool; var w : [p] p; var n : [p] to 2; rule r() if " + guard + " { " + body + " }"
}

func TestP4IndexThatIsNone(t *testing.T) {
	for _, guard := range []string{
		"a[v]", "!a[v]", "a[v] | true", "true | a[v]", "false & a[v]", "a[v] & false", "true | (false & a[v])", "true | true | a[v]", "false & false & a[v]",
		"w[v] == v", "w[v] == none", "none != w[v]", "v != w[v]", "n[v] == 0", "n[v] < 1", "0 < n[v]", "n[v] + 1 == 1", "1 - n[v] == 1", "v != none & a[v]", "v == none | a[v]", "(a[v]) == (a[v])", "!(true | a[v])",
	} {
		wantOne(t, missing(guard, ""), "wrong")
		wantOne(t, missing("true", "if "+guard+" { } else { }"), "wrong")
		wantOne(t, missing("true", "if true { if "+guard+" { } }"), "wrong")
		wantOne(t, missing("true", "if false { if "+guard+" { } }"), "enabled")
		wantOne(t, missing("false", "if "+guard+" { }"), "idle")
		v, e, at := orbits.Play(missing("true", "")+" never s() "+guard+"; never t() false; never u() v == none;", nil)
		if e != api.OK || at != 0 || !slices.Equal(v.Broken, []string{"s()", "u()"}) {
			t.Errorf("P4: never with %q: %+v, %d, %d", guard, v, e, at)
		}
	}
	for _, body := range []string{"a[v] = true;", "w[v] = v;", "w[v] = none;", "n[v] = 0;", "v = w[v];", "n[v] = n[v];", "v = none; a[v] = true;", "if true { } else { } a[v] = false;", "if false { } else { w[v] = v; }", "a[v] = a[v]; v = none;"} {
		wantOne(t, missing("true", body), "wrong")
		wantOne(t, missing("false", body), "idle")
		wantOne(t, missing("true", "if v != none { "+body+" }"), "enabled")
	}
}

func TestP4IndexThatIsSet(t *testing.T) {
	model := "set p 3; var v : p; var w : [p] p; var n : [p] to 2; " +
		"rule at(i : p) if true { v = i; n[v] = n[v] + 1; } rule link(i : p, j : p) if i != j { w[i] = j; } rule hop() if v != none { v = w[v]; } rule lose() if n[v] == 2 { v = none; } rule bump() if v != none { v = w[v]; n[v] = 2; }"
	links := "link(0,1) link(0,2) link(1,0) link(1,2) link(2,0) link(2,1)"
	wantSeen(t, model, "", seen{text: "- [- - -] [0 0 0]", enabled: "at(0) at(1) at(2) " + links, wrong: "lose()"})
	wantSeen(t, model, "at(1)", seen{text: "1 [- - -] [0 1 0]", enabled: "at(0) at(1) at(2) " + links + " hop()", wrong: "bump()"})
	wantSeen(t, model, "at(1) at(1) link(1,2)", seen{text: "1 [- 2 -] [0 2 0]", enabled: "at(0) at(2) " + links + " hop() lose() bump()", wrong: "at(1)"})
	wantSeen(t, model, "at(1) link(1,2) bump()", seen{text: "2 [- 2 -] [0 1 2]", enabled: "at(0) at(1) " + links + " hop() lose()", wrong: "at(2) bump()"})
	wantSeen(t, model, "at(1) link(1,2) hop() hop()", seen{text: "- [- 2 -] [0 1 0]", enabled: "at(0) at(1) at(2) " + links, wrong: "lose()"})
}

func TestP4StatementByStatement(t *testing.T) {
	model := func(body string) string {
		return "set p 2; kind k { a, b } var x : to 3; var y : to 3; var m : k; var v : p; rule r(i : p) if true { " + body + " }"
	}
	for _, c := range []struct{ body, text string }{
		{"", "0 0 a -"},
		{"x = 1; y = x; x = 3;", "3 1 a -"},
		{"y = x; x = 1;", "1 0 a -"},
		{"x = 2; if x == 2 { x = 1; y = 1; } else { x = 3; }", "1 1 a -"},
		{"if x == 0 { x = 1; } if x == 1 { x = 2; } if x == 1 { y = 1; } else { y = 2; }", "2 2 a -"},
		{"if x == 1 { y = 1; } else { if y == 0 { y = 3; } else { y = 2; } m = b; }", "0 3 b -"},
		{"m = b; if m == b { v = i; } if v == i { x = 3; } m = a;", "3 0 a 1"},
		{"v = i; v = none; if v == none { y = 1; }", "0 1 a -"},
		{"x = 3 - 1 - 1; y = 3 - (1 - 1);", "1 3 a -"},
	} {
		v, e, at := orbits.Play(model(c.body), []string{"r(1)"})
		if e != api.OK || at != 0 || v.Text != c.text {
			t.Errorf("P4: %q leads to %q, %d, %d, want %q", c.body, v.Text, e, at, c.text)
		}
	}
}

// Each guard is right or not in the first state: x is false, n 0, m a, v none.
func TestP4WorkedOut(t *testing.T) {
	for _, c := range []struct{ yes, no string }{
		{"true", "false"}, {"!x", "x"}, {"!!true", "!!x"}, {"!x & true", "x & true"}, {"true & !x", "true & x"}, {"x | true", "x | x"}, {"true | true", "false | x"}, {"true & true", "false & false"},
		{"n == 0", "n == 1"}, {"n != 1", "n != 0"}, {"n < 1", "n < 0"}, {"0 < 1", "1 < 1"}, {"1 < 2", "2 < 1"}, {"n + 2 == 2", "n + 2 == 1"}, {"3 - 2 == 1", "2 - 3 == 1"}, {"5 - 2 - 1 == 2", "5 - 2 - 1 == 4"}, {"5 - (2 - 1) == 4", "5 - (2 - 1) == 2"}, {"2 - 1 + 1 == 2", "2 - 1 + 1 == 0"},
		{"m == a", "m == b"}, {"m != b", "m != a"}, {"a != b", "a == b"}, {"v == none", "v != none"}, {"none == v", "none != v"}, {"v == v", "v != v"}, {"v == (none)", "(none) != (v)"},
		{"x == false", "x == true"}, {"x != true", "x != false"}, {"(n == 0) == (m == a)", "(n == 0) != (m == a)"}, {"x == (n == 1)", "x != (n == 1)"},
		{"true | false & false", "(true | false) & false"}, {"!x == !x", "!x == x"}, {"!(x | x)", "!(x | true)"}, {"1 + 1 < 3 & true", "1 + 1 < 2 & true"},
	} {
		vars := "set p 2; kind k { a, b } var x : bool; var n : to 2; var m : k; var v : p; "
		wantOne(t, vars+"rule r() if "+c.yes+" { }", "enabled")
		wantOne(t, vars+"rule r() if "+c.no+" { }", "idle")
		wantSeen(t, vars+"rule r() if true { } never y() "+c.yes+"; never z() "+c.no+";", "", seen{text: "0 0 a -", enabled: "r()", broken: "y()"})
	}
}

func TestP4MembersOfSets(t *testing.T) {
	model := "set p 3; set q 2; var v : p; var w : [q] q; rule at(i : p) if v != i { v = i; } rule tie(j : q, k : q) if w[j] != k { w[j] = k; } " +
		"never same(i : p, h : p) i == h; never here(i : p) v == i; never loop(j : q) w[j] == j;"
	same := "same(0,0) same(1,1) same(2,2)"
	wantSeen(t, model, "", seen{text: "- [- -]", enabled: "at(0) at(1) at(2) tie(0,0) tie(0,1) tie(1,0) tie(1,1)", broken: same})
	wantSeen(t, model, "at(0) tie(1,1) tie(0,1)", seen{text: "0 [1 1]", enabled: "at(1) at(2) tie(0,0) tie(1,0)", broken: same + " here(0) loop(1)"})
	wantSeen(t, model, "at(0) tie(1,1) tie(0,1) at(2) tie(0,0)", seen{text: "2 [0 1]", enabled: "at(0) at(1) tie(0,1) tie(1,0)", broken: same + " here(2) loop(0) loop(1)"})
}

func TestP4OrderOfInstances(t *testing.T) {
	model := "set z 2; set b 3; var x : [z] bool; var y : [b] to 1; " +
		"rule zz(j : b, i : z) if true { y[j] = y[j] + 1; } rule aa(i : z, j : z) if i != j { x[i] = true; } rule mm() if true { } rule cc(i : b, j : b) if y[i] + y[j] == 2 { } " +
		"never zy(j : b, i : z) x[i] & y[j] == 1; never ab(i : z) !x[i]; never mn() true;"
	wantSeen(t, model, "", seen{text: "[0 0] [0 0 0]", enabled: "zz(0,0) zz(0,1) zz(1,0) zz(1,1) zz(2,0) zz(2,1) aa(0,1) aa(1,0) mm()", broken: "ab(0) ab(1) mn()"})
	wantSeen(t, model, "zz(2,0) aa(1,0) zz(0,1)", seen{text: "[0 1] [1 0 1]", enabled: "zz(1,0) zz(1,1) aa(0,1) aa(1,0) mm() cc(0,0) cc(0,2) cc(2,0) cc(2,2)", wrong: "zz(0,0) zz(0,1) zz(2,0) zz(2,1)", broken: "zy(0,1) zy(2,1) ab(0) mn()"})
}

func TestP4Dead(t *testing.T) {
	once := "var x : bool; rule r() if !x { x = true; } "
	wantSeen(t, once, "", seen{text: "0", enabled: "r()"})
	wantSeen(t, once, "r()", seen{text: "1", dead: true})
	wantSeen(t, once+"never n() x;", "r()", seen{text: "1", broken: "n()", dead: true})
	wantSeen(t, once+"rule s() if x { x = false; }", "r()", seen{text: "1", enabled: "s()"})
	wantSeen(t, "var n : to 1; rule r() if true { n = n + 1; }", "r()", seen{text: "1", wrong: "r()"})
	wantSeen(t, "set p 2; var v : p; var a : [p] bool; rule r(i : p) if a[v] & a[i] { } never n(i : p) a[v];", "", seen{text: "- [0 0]", wrong: "r(0) r(1)", broken: "n(0) n(1)"})
	wantSeen(t, "var x : bool; rule r() if true { }", "r() r() r()", seen{text: "0", enabled: "r()"})
}
