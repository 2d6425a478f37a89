package orbits_test

import (
	"slices"
	"strings"
	"sync"
	"testing"

	"orbits/api"
	"orbits/orbits"
)

// wellFormed asks what holds of every answer of Check, and of Play and Search behind it.
func wellFormed(t *testing.T, text string) {
	t.Helper()
	e, at := orbits.Check(text)
	if e < api.OK || e > api.ErrType {
		t.Errorf("P1: Check(%q) tells error %d", text, e)
	}
	hasPlace := e == api.ErrToken || e == api.ErrSyntax || e == api.ErrMany || e == api.ErrName
	if at < 0 || at > len(text) || !hasPlace && at != 0 {
		t.Errorf("P1: Check(%.100q) = %d, with place %d", text, e, at)
	}
	wantPlayAfterCheck(t, text, e, at)
	wantSearchAfterCheck(t, text, e)
}

// wantPlayAfterCheck holds Play against Check's answer: its errors go ahead of all others.
func wantPlayAfterCheck(t *testing.T, text string, e api.Errno, at int) {
	t.Helper()
	many := make([]string, api.MaxSteps+1)
	if e != api.OK {
		wantStop(t, text, nil, e, at)
		wantStop(t, text, many[:1], e, at)
		wantStop(t, text, many, e, at)
		return
	}
	wantStop(t, text, many, api.ErrArg, 0)
	wantStop(t, text, many[:1], api.ErrStep, 0)
	if v, playE, playAt := orbits.Play(text, nil); playE != api.OK || playAt != 0 || v.Text == "" {
		t.Errorf("P1: Play(%q, nil) = %+v, %d, %d", text, v, playE, playAt)
	}
}

// wantSearchAfterCheck holds Search against Check's answer likewise, and asks what holds of every report.
func wantSearchAfterCheck(t *testing.T, text string, e api.Errno) {
	t.Helper()
	if e != api.OK {
		wantNoSearch(t, text, 1, e)
		wantNoSearch(t, text, api.MaxOrbits+1, e)
		return
	}
	wantNoSearch(t, text, 0, api.ErrArg)
	wantNoSearch(t, text, api.MaxOrbits+1, api.ErrArg)
	for _, most := range []int{1, api.MaxOrbits} {
		r, searchE := orbits.Search(text, most)
		if searchE == api.ErrBig {
			wantNoSearch(t, text, most, api.ErrBig)
		} else if searchE != api.OK || r.End < api.Safe || r.End > api.Wrong || r.Orbits < 1 || r.Orbits > most || r.End == api.Safe && len(r.Trace) > 0 || len(r.Trace) >= r.Orbits {
			t.Errorf("P1: Search(%q, %d) = %+v, %d", text, most, r, searchE)
		}
	}
}

func TestP1AnyBytes(t *testing.T) {
	for b := range 256 {
		one := string([]byte{byte(b)})
		wellFormed(t, one)
		for _, n := range []int{2, 13, 800, 801, 100000} {
			wellFormed(t, strings.Repeat(one, n))
		}
		for at := 0; at <= len(mutex); at += 3 {
			wellFormed(t, mutex[:at]+one+mutex[at:])
		}
	}
}

func TestP1AnyPiece(t *testing.T) {
	for from := range len(mutex) {
		wellFormed(t, mutex[from:])
		wellFormed(t, mutex[:from])
		for to := from; to <= len(mutex); to += 7 {
			wellFormed(t, mutex[:from]+mutex[to:])
		}
	}
}

func TestP1DeepAndLongRows(t *testing.T) {
	for _, ahead := range []string{"", "kind k ", "var x : ", "var x : bool; rule r", "var x : bool; rule r() if ", "var x : bool; rule r() if x { ", "var x : bool; rule r() if x { x = "} {
		for _, row := range []string{"(", "[", "{", "!", "!(", "(!", "x[", "if x {", "x+", "x&", "x|", "x==", "1<", "x=x;", "if x{}else{", "a,", "i:p,", "(x)|"} {
			for n := range 800 / len(row) {
				wellFormed(t, ahead+strings.Repeat(row, n))
			}
		}
	}
	terms := strings.Repeat("x&", 380) + "x"
	want(t, "var x:bool;rule r()if "+terms+"{}", api.OK, 0)
	want(t, "var x:bool;rule r()if x{"+strings.Repeat("if x{}", 120)+"}", api.OK, 0)
}

// Each text has two errors, the one that is told last standing first in the text wherever it can.
func TestP1WhichOfTwoErrors(t *testing.T) {
	long := strings.Repeat(" ", 801)
	for _, c := range []struct {
		text string
		e    api.Errno
	}{
		{"#" + long, api.ErrLong},
		{"; set" + long, api.ErrLong},
		{mutex + long, api.ErrLong},
		{"set set ^#", api.ErrToken},
		{"var x : bool ^12", api.ErrToken},
		{"set p 9; var x : q; rule r() if 1 { ^#", api.ErrToken},
		{strings.Repeat("(", 13) + "^#", api.ErrToken},
		{"set p 9; var x : bool; rule r() if x { x = ^}", api.ErrSyntax},
		{"var x : q; rule r() if y { ^; }", api.ErrSyntax},
		{"var x : bool; rule r() if x { x = 1; ^; }", api.ErrSyntax},
		{"set p 2; set q 2; set s 2; var x : bool; ^", api.ErrSyntax},
		{"var x : q; var y : to ^9; rule r() if y { }", api.ErrMany},
		{"set p 2; set p 2; set ^p 2; var x : bool; rule r() if x { }", api.ErrMany},
		{"var x : bool; rule r() if 1 { } rule s(i : p, j : p, ^k : p) if x { }", api.ErrMany},
		{"var x : bool; rule r() if 1 { x = 1; } rule s() if x == ^y { }", api.ErrName},
		{"var x : bool; rule r() if none { } never ^x() x;", api.ErrName},
		{"set p 2; var x : bool; rule r(^n : p) if n { } never n() n;", api.ErrName},
	} {
		bare, at := marked(c.text)
		want(t, bare, c.e, at)
	}
}

// Which of two errors of one sort is told: the one that stands first in the text.
func TestP1FirstOfOneSort(t *testing.T) {
	wantMarked(t, api.ErrToken, "var ^A B 12", "^12 #")
	wantMarked(t, api.ErrSyntax, "^; ;", "var ^1 : 1;")
	wantMarked(t, api.ErrMany,
		"set p ^4; set q 2; set s 2; var x : bool; rule r() if x { }",
		"set p 2; set q ^9; set s 2; var x : to 9; rule r() if x < 1 { }",
		"kind k { a, b, c, d, ^e } var x : to 0; rule r() if x < 1 { }",
		"var a : bool; var b : to ^7; var c : bool; var d : bool; var e : bool; rule r() if a { }",
	)
	wantMarked(t, api.ErrName,
		"var x : ^q; var x : bool; rule r() if y { }",
		"var x : bool; var ^x : q; rule r() if y { }",
		"set p 2; var x : bool; rule r(^s : p) if y { } rule s() if x { }",
		"set p 2; var x : bool; rule r(i : p) if ^y { } rule s(t : p) if x { } never t() x;",
		"var x : bool; rule r() if ^y[z] { }",
	)
}

func TestP1PlayWhichOfTwoErrors(t *testing.T) {
	tooMany := strings.Fields(strings.Repeat("x ", 61))
	for _, c := range []struct {
		model string
		steps []string
		e     api.Errno
		at    int
	}{
		{mutex + strings.Repeat(" ", 801), tooMany, api.ErrLong, 0},
		{mutex + "#", tooMany, api.ErrToken, len(mutex)},
		{mutex + ";", tooMany, api.ErrSyntax, len(mutex)},
		{"", nil, api.ErrSyntax, 0},
		{"set s 4; var x : bool; rule r() if x { }", tooMany, api.ErrMany, 6},
		{"var x : q; rule r() if true { }", tooMany, api.ErrName, 8},
		{simple("1", ""), tooMany, api.ErrType, 0},
		{simple("1", ""), []string{"r()"}, api.ErrType, 0},
		{simple("x", "x = 1;"), nil, api.ErrType, 0},
		{mutex, tooMany, api.ErrArg, 0},
		{mutex, tooMany[:60], api.ErrStep, 0},
		{mutex, append([]string{"ask(0)", "ask(1)"}, tooMany[:58]...), api.ErrStep, 2},
		{mutex, append([]string{"ask(0)", "ask(1)"}, tooMany[:59]...), api.ErrArg, 0},
		{mutex, []string{"ask(0)", "ask(0)", "get(9)", ""}, api.ErrStep, 1},
	} {
		wantStop(t, c.model, c.steps, c.e, c.at)
	}
}

func TestP1PlayAnySteps(t *testing.T) {
	for b := range 256 {
		one := string([]byte{byte(b)})
		for _, text := range []string{one, "ask" + one, "ask(" + one, "ask(" + one + ")", "ask(0)" + one, one + "ask(0)", "a" + one + "k(0)", "ask(0" + one + ")", strings.Repeat(one, 5000)} {
			v, e, at := orbits.Play(mutex, []string{"ask(1)", text})
			if text == "ask(0)" || text == "ask(2)" {
				if e != api.OK || at != 0 || v.Text == "" {
					t.Errorf("P4: a step %q = %+v, %d, %d", text, v, e, at)
				}
				continue
			}
			if e != api.ErrStep || at != 1 {
				t.Errorf("P1: a step %.100q = %d, %d", text, e, at)
			}
		}
	}
}

func TestP2StepsAreNotWrittenInto(t *testing.T) {
	room := []string{"spare", "ask(1)", "get(1)", "ask(0)", "spare", "spare", "spare"}
	kept := slices.Clone(room)
	for _, model := range []string{mutex, "#", simple("1", ""), full} {
		for from := range room {
			for to := from; to <= len(room); to++ {
				orbits.Play(model, room[from:to])
			}
		}
		orbits.Play(model, room[1:4:7])
	}
	if !slices.Equal(room, kept) {
		t.Errorf("P2: the steps are %q behind the calls, and were %q", room, kept)
	}
}

// scribble writes into all of a list, its spare room as well.
func scribble(list []string) {
	for i := range list[:cap(list)] {
		list[:cap(list)][i] = "scribble"
	}
}

func TestP2ListsAreNew(t *testing.T) {
	model := "set p 3; var n : [p] to 1; rule up(i : p) if true { n[i] = n[i] + 1; } never one(i : p) n[i] == 1;"
	steps := []string{"up(1)"}
	want := seen{text: "[0 1 0]", enabled: "up(0) up(2)", wrong: "up(1)", broken: "one(1)"}
	first, _, _ := orbits.Play(model, steps)
	second, _, _ := orbits.Play(model, steps)
	for _, list := range []*[]string{&first.Enabled, &first.Wrong, &first.Broken} {
		kept := slices.Clone(*list)
		scribble(*list)
		*list = kept
		if asSeen(first) != want || asSeen(second) != want {
			t.Errorf("P2: a list of one answer is written into, and the answers are %+v, %+v", first, second)
		}
	}
	scribble(steps)
	if third, _, _ := orbits.Play(model, []string{"up(1)"}); asSeen(second) != want || asSeen(third) != want {
		t.Errorf("P2: the steps are written into, and the answers are %+v, %+v", second, third)
	}
}

func TestP2TracesAreNew(t *testing.T) {
	model := strings.Replace(mutex, " & own == none", "", 1)
	first, _ := orbits.Search(model, 100)
	second, _ := orbits.Search(model, 100)
	want := asTold(second)
	scribble(first.Trace)
	third, _ := orbits.Search(model, 100)
	if want.trace == "" || asTold(second) != want || asTold(third) != want {
		t.Errorf("P2: a trace is written into, and others are %+v, %+v", second, third)
	}
	view, _, _ := orbits.Play(model, second.Trace)
	scribble(second.Trace)
	if again, _, _ := orbits.Play(model, third.Trace); !sameView(view, again) {
		t.Errorf("P2: a trace is written into, and Play tells %+v, then %+v", view, again)
	}
}

func TestP2SameAnswerEachTime(t *testing.T) {
	texts := []string{mutex, full, strings.Replace(mutex, " & own == none", "", 1), strings.Replace(mutex, "own = none;", "", 1), wide, up, livelyOf(1), livelyOf(4), livelyOf(5), livelyOf(8), "", "#", "set p 2;", simple("y", ""), simple("1", ""), "set s 4; var x : bool; rule r() if x { }", strings.Repeat("x", 801), rich("v == i", "w[i] = none;")}
	steps := [][]string{nil, {"ask(0)", "get(0)"}, {"two()"}, {"r(0,0)", "r(1,1)"}, make([]string, 61)}
	type answer struct {
		e, playE, searchE api.Errno
		at, playAt        int
		view              seen
		report            told
	}
	ask := func(text string, steps []string) answer {
		e, at := orbits.Check(text)
		v, playE, playAt := orbits.Play(text, steps)
		r, searchE := orbits.Search(text, 300)
		return answer{e, playE, searchE, at, playAt, asSeen(v), asTold(r)}
	}
	var first []answer
	for i, text := range texts {
		first = append(first, ask(text, steps[i%len(steps)]))
	}
	var group sync.WaitGroup
	for worker := range 8 {
		group.Go(func() {
			for turn := range 50 {
				i := (worker*7 + turn*3) % len(texts)
				fresh := string([]byte(texts[i]))
				if got := ask(fresh, slices.Clone(steps[i%len(steps)])); got != first[i] {
					t.Errorf("P2: Check, Play and Search of %.100q = %v, then %v", fresh, first[i], got)
				}
			}
		})
	}
	group.Wait()
}
