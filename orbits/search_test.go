package orbits_test

import (
	"slices"
	"strings"
	"testing"

	"orbits/api"
	"orbits/orbits"
)

// told is a Report with its list as a text.
type told struct {
	end, orbits int
	trace       string
}

func asTold(r api.Report) told { return told{r.End, r.Orbits, strings.Join(r.Trace, " ")} }

func wantNoSearch(t *testing.T, model string, most int, e api.Errno) {
	t.Helper()
	r, got := orbits.Search(model, most)
	if got != e {
		t.Errorf("P5: Search(%q, %d) = %+v, %d, want %d", model, most, r, got, e)
	}
	if r.End != 0 || len(r.Trace) != 0 || r.Orbits != 0 {
		t.Errorf("P1: Search(%q, %d) = %+v beside error %d", model, most, r, got)
	}
}

// wantSearch asks for one of the ends of a search, with as many steps and orbits, and that the steps lead to such an end; and that most orbits are as many as are needed.
func wantSearch(t *testing.T, model string, steps, seen int, ends ...int) {
	t.Helper()
	for _, most := range []int{seen, seen + 1, api.MaxOrbits} {
		if most > api.MaxOrbits {
			continue
		}
		r, e := orbits.Search(model, most)
		if e != api.OK || !slices.Contains(ends, r.End) || len(r.Trace) != steps || r.Orbits != seen {
			t.Errorf("P5: Search(%q, %d) = %+v, %d, want an end of %d, %d steps, %d orbits", model, most, r, e, ends, steps, seen)
			continue
		}
		wantEndThere(t, model, r)
	}
	if seen > 1 {
		wantNoSearch(t, model, seen-1, api.ErrBig)
	}
}

// wantEndThere follows the trace of a report, by the second reading, and by Play if that may go so far.
func wantEndThere(t *testing.T, model string, r api.Report) {
	t.Helper()
	w := readWorld(model)
	s := w.start()
	for _, text := range r.Trace {
		if s = w.step(s, text); s == nil {
			t.Errorf("P5: %q: the trace of %+v can't be followed", model, r)
			return
		}
	}
	v := w.view(s)
	if r.End == api.Safe && (len(r.Trace) > 0 || isBad(v)) || r.End != api.Safe && !slices.Contains(endsOf(v), r.End) {
		t.Errorf("P5: %q: %+v leads to %+v", model, r, v)
	}
	if len(r.Trace) > api.MaxSteps {
		return
	}
	if played, e, at := orbits.Play(model, r.Trace); e != api.OK || at != 0 || !sameView(played, v) {
		t.Errorf("P5: %q: Play of %+v = %+v, %d, %d, want %+v", model, r, played, e, at, v)
	}
}

func endsOf(v api.View) (ends []int) {
	if len(v.Broken) > 0 {
		ends = append(ends, api.Never)
	}
	if v.Dead {
		ends = append(ends, api.Dead)
	}
	if len(v.Wrong) > 0 {
		ends = append(ends, api.Wrong)
	}
	return ends
}

func isBad(v api.View) bool { return len(endsOf(v)) > 0 }

const (
	up   = "var x : to 1; rule up() if true { x = x + 1; }"
	once = "var x : bool; rule r() if !x { x = true; } "
	flip = "var x : bool; rule r() if true { x = !x; } "
	fork = "var x : to 3; rule a() if x == 0 { x = 1; } rule b() if x == 0 { x = 2; } rule c() if x == 2 { x = 3; } rule d() if 0 < x { } "
)

func TestP5DocumentExamples(t *testing.T) {
	wantSearch(t, mutex, 0, 7, api.Safe)
	wantSearch(t, strings.Replace(mutex, " & own == none", "", 1), 4, 8, api.Never)
	wantSearch(t, strings.Replace(mutex, "own = none;", "", 1), 6, 13, api.Dead)
	wantSearch(t, up, 1, 2, api.Wrong)
	wantSearch(t, "set s 2; var v : s; var a : [s] bool; rule r() if a[v] { }", 0, 1, api.Wrong)
	if r, e := orbits.Search(up, 2); e != api.OK || asTold(r) != (told{api.Wrong, 2, "up()"}) {
		t.Errorf("P5: Search(%q, 2) = %+v, %d", up, r, e)
	}
	for _, text := range []string{"", "var x : bool; rule r() if x { x = 1; }", "var x : q; rule r() if true { }", "set s 4; var x : bool; rule r() if x { }", "var x : bool; rule r() if x < x { }"} {
		e, _ := orbits.Check(text)
		if e == api.OK {
			t.Errorf("P3: Check(%q) tells no error", text)
		}
		wantNoSearch(t, text, 100, e)
	}
}

func TestP5Most(t *testing.T) {
	least := -1 << 63
	for _, most := range []int{least, -501, -1, 0, 501, 502, 1000, 1 << 32, 1<<63 - 1} {
		wantNoSearch(t, mutex, most, api.ErrArg)
		wantNoSearch(t, once, most, api.ErrArg)
		wantNoSearch(t, simple("false", ""), most, api.ErrArg)
		wantNoSearch(t, "", most, api.ErrSyntax)
		wantNoSearch(t, simple("1", ""), most, api.ErrType)
	}
	for most := 1; most <= api.MaxOrbits; most++ {
		if most < 7 {
			wantNoSearch(t, mutex, most, api.ErrBig)
		} else if r, e := orbits.Search(mutex, most); e != api.OK || asTold(r) != (told{api.Safe, 7, ""}) {
			t.Errorf("P5: Search(mutex, %d) = %+v, %d", most, r, e)
		}
	}
}

// wide has 480 orbits of y below 2, and 20 with y of 2.
const wide = "set s 3; var a : [s] to 3; var v : s; var x : to 3; var y : to 3; " +
	"rule up(i : s) if true { if a[i] < 3 { a[i] = a[i] + 1; } } " +
	"rule at(i : s) if y < 2 & v == none { v = i; } " +
	"rule next() if y < 2 & x < 3 { x = x + 1; } " +
	"rule on() if y < 1 | y == 1 & v == none & x == 0 { y = y + 1; } "

func TestP5AsManyOrbitsAsThereMayBe(t *testing.T) {
	wantSearch(t, wide, 0, api.MaxOrbits, api.Safe)
	// The members i, j and v are all there are: so there is one more orbit, with y of 3.
	more := wide + "rule far(i : s, j : s) if y == 1 & x == 0 & v != none & v != i & v != j & i != j & a[i] == 0 & a[j] == 0 { if a[v] == 0 { y = 3; v = none; } } "
	wantNoSearch(t, more, api.MaxOrbits, api.ErrBig)
	wantNoSearch(t, more, api.MaxOrbits+1, api.ErrArg)
	wantSearch(t, more+"never n() y == 3;", 3, 39, api.Never)
}

func TestP5EachEnd(t *testing.T) {
	wantSearch(t, simple("true", ""), 0, 1, api.Safe)
	wantSearch(t, flip, 0, 2, api.Safe)
	wantSearch(t, flip+"never n() false;", 0, 2, api.Safe)
	wantSearch(t, flip+"never n() x;", 1, 2, api.Never)
	wantSearch(t, flip+"never n() !x;", 0, 1, api.Never)
	wantSearch(t, flip+"never l() false; never m() x; never n() true;", 0, 1, api.Never)
	wantSearch(t, once, 1, 2, api.Dead)
	wantSearch(t, simple("x", ""), 0, 1, api.Dead)
	wantSearch(t, simple("false", "x = true;"), 0, 1, api.Dead)
	wantSearch(t, "var x : to 3; rule r() if x < 3 { x = x + 1; }", 3, 4, api.Dead)
	wantSearch(t, "var x : to 3; rule r() if true { x = x + 1; }", 3, 4, api.Wrong)
	wantSearch(t, "var x : to 3; rule r() if true { x = x - 1; }", 0, 1, api.Wrong)
	wantSearch(t, "var x : to 3; rule r() if true { x = x - 1; } rule s() if true { }", 0, 1, api.Wrong)
	wantSearch(t, "set p 2; var v : p; var a : [p] bool; rule r(i : p) if v == none { v = i; } rule s() if v != none { v = none; } never n() a[v];", 0, 1, api.Never)
	wantSearch(t, "set p 2; var v : p; var a : [p] bool; rule r(i : p) if v == none { v = i; } rule s() if v != none { v = none; a[v] = true; }", 1, 2, api.Wrong)
}

func TestP5SeveralEndsAtOnce(t *testing.T) {
	wantSearch(t, once+"never n() x;", 1, 2, api.Never, api.Dead)
	wantSearch(t, up+"never n() x == 1;", 1, 2, api.Never, api.Wrong)
	wantSearch(t, "var x : bool; rule r() if false { } never n() !x;", 0, 1, api.Never, api.Dead)
	// One round sees 1, which is dead, 2, which is broken, and 3, which goes wrong.
	three := "var x : to 3; var y : bool; rule a() if x == 0 { x = 1; } rule b() if x == 0 { x = 2; } rule c() if x == 0 { x = 3; } rule d() if x == 2 { } rule e() if x == 3 { x = 4; } never n() x == 2;"
	wantSearch(t, three, 1, 4, api.Never, api.Dead, api.Wrong)
}

// A bad state ends the search with its round, which sees all that it can see, and no more.
func TestP5WholeRounds(t *testing.T) {
	wantSearch(t, fork, 0, 4, api.Safe)
	wantSearch(t, fork+"never n() x == 0;", 0, 1, api.Never)
	wantSearch(t, fork+"never n() x == 1;", 1, 3, api.Never)
	wantSearch(t, fork+"never n() x == 2;", 1, 3, api.Never)
	wantSearch(t, fork+"never n() x == 3;", 2, 4, api.Never)
	wantSearch(t, fork+"never m() x == 1; never n() x == 3;", 1, 3, api.Never)
	wide := "set s 3; var a : [s] to 3; rule r(i : s) if a[i] < 3 { a[i] = a[i] + 1; } "
	wantSearch(t, wide+"never n(i : s) a[i] == 1;", 1, 2, api.Never)
	wantSearch(t, wide+"never n(i : s) a[i] == 2;", 2, 4, api.Never)
	wantSearch(t, wide+"never n(i : s) a[i] == 3;", 3, 7, api.Never)
	wantSearch(t, wide+"never n(i : s, j : s) i != j & a[i] == 3 & a[j] == 3;", 6, 16, api.Never)
	wantSearch(t, wide, 9, 20, api.Dead)
}

func TestP5TooManyAheadOfBad(t *testing.T) {
	wantNoSearch(t, fork+"never n() x == 1;", 2, api.ErrBig)
	wantNoSearch(t, fork+"never n() x == 1;", 1, api.ErrBig)
	wantNoSearch(t, once+"never n() x;", 1, api.ErrBig)
	wantNoSearch(t, up, 1, api.ErrBig)
	// What a later round would see is not seen.
	for _, model := range []string{fork + "never n() x == 0;", "var x : to 3; rule r() if x < 3 { x = x + 1; } rule s() if true { x = x - 1; }", simple("false", "")} {
		if r, e := orbits.Search(model, 1); e != api.OK || r.End == api.Safe || len(r.Trace) != 0 || r.Orbits != 1 {
			t.Errorf("P5: Search(%q, 1) = %+v, %d", model, r, e)
		}
	}
}

// counter counts to 255 in four digits: each state has one behind it.
const counter = "var a : to 3; var b : to 3; var c : to 3; var d : to 3; rule tick() if a + b + c + d < 9 + 3 { " +
	"if a < 3 { a = a + 1; } else { a = 0; if b < 3 { b = b + 1; } else { b = 0; if c < 3 { c = c + 1; } else { c = 0; d = d + 1; } } } } "

func TestP5LongTraces(t *testing.T) {
	wantSearch(t, counter, 255, 256, api.Dead)
	wantSearch(t, counter+"rule end() if a + b + c + d == 9 + 3 { a = 0; b = 0; c = 0; d = 0; }", 0, 256, api.Safe)
	wantSearch(t, counter+"never n() a == 0 & b == 3 & c == 3;", 60, 61, api.Never)
	wantSearch(t, counter+"never n() a == 1 & b == 3 & c == 3;", 61, 62, api.Never)
	wantSearch(t, counter+"rule r() if b == 2 & c == 1 & d == 2 { a = 9; }", 152, 153, api.Wrong)
	r, e := orbits.Search(counter, 300)
	if e != api.OK || slices.ContainsFunc(r.Trace, func(text string) bool { return text != "tick()" }) {
		t.Errorf("P5: Search(counter, 300) = %+v, %d", r, e)
	}
}

func TestP5ShortestOfSeveralTraces(t *testing.T) {
	ways := "var x : to 3; var y : to 3; rule one() if x < 3 { x = x + 1; } rule two() if x < 2 { x = x + 2; } rule back() if 0 < x { x = x - 1; y = 1; } "
	wantSearch(t, ways+"never n() x == 3;", 2, 6, api.Never)
	wantSearch(t, ways+"never n() x == 3 & y == 1;", 3, 8, api.Never)
	wantSearch(t, ways+"never n() x == 0 & y == 1;", 2, 6, api.Never)
	// The short way stands last in the text, or first.
	wantSearch(t, "var x : to 3; rule slow() if x < 3 { x = x + 1; } rule fast() if x == 0 { x = 3; } never n() x == 3;", 1, 3, api.Never)
	wantSearch(t, "var x : to 3; rule fast() if x == 0 { x = 3; } rule slow() if x < 3 { x = x + 1; } never n() x == 3;", 1, 3, api.Never)
}

// Each model sets its variables to all that they can be; how many orbits that makes is counted by hand.
func TestP5CountOfOrbits(t *testing.T) {
	for _, c := range []struct {
		model string
		seen  int
	}{
		{"set s 2; var v : s; rule r(i : s) if true { v = i; } rule n() if true { v = none; }", 2},
		{"set s 3; var v : s; rule r(i : s) if true { v = i; } rule n() if true { v = none; }", 2},
		{"set s 3; var v : s; var u : s; rule r(i : s, j : s) if true { v = i; u = j; } rule m() if true { v = none; } rule n() if true { u = none; }", 5},
		{"set s 3; set t 3; var v : s; var u : t; rule r(i : s, j : t) if true { v = i; u = j; } rule m() if true { v = none; } rule n() if true { u = none; }", 4},
		{"set s 3; var v : s; var a : [s] bool; rule r(i : s) if true { a[i] = !a[i]; } rule m(i : s) if true { v = i; } rule n() if true { v = none; }", 10},
		{"set s 3; set t 3; var v : t; var a : [s] bool; rule r(i : s) if true { a[i] = !a[i]; } rule m(i : t) if true { v = i; } rule n() if true { v = none; }", 8},
		{"set s 3; var a : [s] bool; var b : [s] bool; rule r(i : s) if true { a[i] = !a[i]; } rule m(i : s) if true { b[i] = !b[i]; }", 20},
		{"set s 3; set t 3; var a : [s] bool; var b : [t] bool; rule r(i : s) if true { a[i] = !a[i]; } rule m(i : t) if true { b[i] = !b[i]; }", 16},
		{"set s 3; set t 2; var a : [s] bool; var b : [t] bool; rule r(i : s, j : t) if true { a[i] = !a[i]; } rule m(j : t, i : s) if true { b[j] = !b[j]; }", 12},
		{"set s 3; kind k { ka, kb, kc } var a : [s] k; rule b(i : s) if true { a[i] = kb; } rule c(i : s) if true { a[i] = kc; } rule d(i : s) if true { a[i] = ka; }", 10},
		{"set s 3; set t 3; var f : [s] t; rule r(i : s, j : t) if true { f[i] = j; } rule n(i : s) if true { f[i] = none; }", 7},
		{"set s 3; set t 2; var f : [s] t; rule r(i : s, j : t) if true { f[i] = j; } rule n(i : s) if true { f[i] = none; }", 6},
		{"set s 2; set t 3; var f : [s] t; rule r(i : s, j : t) if true { f[i] = j; } rule n(i : s) if true { f[i] = none; }", 4},
		{"set s 3; var f : [s] s; rule r(i : s, j : s) if true { f[i] = j; } rule n(i : s) if true { f[i] = none; }", 16},
		{"set s 2; var f : [s] s; rule r(i : s, j : s) if true { f[i] = j; } rule n(i : s) if true { f[i] = none; }", 6},
		{"set s 3; var x : bool; rule r() if true { x = !x; }", 2},
		{"set s 3; set t 3; var x : to 3; rule r() if true { x = 3 - x; } rule m() if x == 0 { x = 1; }", 4},
	} {
		wantSearch(t, c.model, 0, c.seen, api.Safe)
	}
}
