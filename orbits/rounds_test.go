package orbits_test

import (
	"slices"
	"strings"
	"testing"

	"orbits/api"
	"orbits/orbits"
)

// round is what a round of a search comes to: the orbits seen so far, whether some were new, whether a state was bad.
type round struct {
	orbits     int
	isNew, bad bool
}

// rounds goes through all states, each of those that are alike as well, and counts the orbits by turning each state in every way. It stops ahead of a round that has too many states; then isWhole is false.
func (w *world) rounds(t *testing.T, limit int) (all []round, isWhole bool) {
	turns, rules := w.turns(), w.instances(true)
	seenIn := map[string]int{}
	layer := []position{w.start()}
	reached := map[string]bool{w.text(layer[0]): true}
	for orbits := 0; ; {
		r := round{}
		for _, s := range layer {
			text := w.text(s)
			in, isSeen := seenIn[text]
			if !isSeen {
				r.isNew = true
				orbits++
				for _, by := range turns {
					seenIn[w.stateText(by, text)] = len(all)
				}
			} else if in != len(all) {
				t.Errorf("P6: round %d sees %s, and round %d one that is alike", len(all), text, in)
			}
			r.bad = r.bad || isBad(w.view(s))
		}
		r.orbits = orbits
		all = append(all, r)
		if r.bad || !r.isNew {
			return all, true
		}
		var next []position
		for _, s := range layer {
			for _, g := range rules {
				behind, _ := w.makes(g, s)
				if behind == nil || reached[w.text(behind)] {
					continue
				}
				reached[w.text(behind)] = true
				next = append(next, behind)
			}
		}
		if len(reached) > limit {
			return all, false
		}
		layer = next
	}
}

// wantRounds holds searches against the rounds that were counted: with each number of orbits at which the answer changes.
func wantRounds(t *testing.T, model string, all []round, isWhole bool) {
	t.Helper()
	for i, r := range all {
		if r.orbits > 1 {
			wantNoSearch(t, model, min(r.orbits-1, api.MaxOrbits), api.ErrBig)
		}
		if r.orbits > api.MaxOrbits {
			return
		}
		if isWhole && i == len(all)-1 {
			wantLastRound(t, model, i, r)
		}
	}
}

func wantLastRound(t *testing.T, model string, number int, r round) {
	t.Helper()
	for _, most := range []int{r.orbits, min(r.orbits+1, api.MaxOrbits), api.MaxOrbits} {
		report, e := orbits.Search(model, most)
		steps := 0
		if r.bad {
			steps = number
		}
		if e != api.OK || report.Orbits != r.orbits || report.End != api.Safe != r.bad || len(report.Trace) != steps {
			t.Fatalf("P5: Search(%q, %d) = %+v, %d, want %d orbits, bad: %v, %d steps", model, most, report, e, r.orbits, r.bad, steps)
		}
		wantEndThere(t, model, report)
	}
}

func TestP5AgainstAllStates(t *testing.T) {
	hand := []string{
		mutex, full, strings.Replace(mutex, " & own == none", "", 1), strings.Replace(mutex, "own = none;", "", 1),
		"set p 3; var f : [p] p; rule r(i : p, j : p) if f[i] == none { f[i] = j; } rule n(i : p) if f[i] != none { f[i] = none; }",
		"set p 3; set q 3; var f : [p] q; var g : [q] p; rule r(i : p, j : q) if f[i] == none & g[j] == none { f[i] = j; g[j] = i; } rule n(i : p, j : q) if f[i] == j { f[i] = none; }",
		"set p 2; set q 3; var f : [p] q; var v : q; var u : p; rule r(i : p, j : q) if true { f[i] = j; } rule s(i : p) if f[i] != none { v = f[i]; u = i; } never n(i : p) v == none & u == i;",
		"set p 3; var f : [p] p; var v : p; rule r(i : p, j : p) if i != j { f[i] = j; v = i; } never n(i : p, j : p) i != j & f[i] == j & f[j] == i & v != none & v != i & v != j;",
	}
	ends, errors, long, alike := map[int]int{}, map[api.Errno]int{}, map[int]int{}, 0
	for number := range 1500 {
		model := livelyOf(uint64(number))
		if number < len(hand) {
			model = hand[number]
		}
		w := readWorld(model)
		all, isWhole := w.rounds(t, 700)
		wantRounds(t, model, all, isWhole)
		r, e := orbits.Search(model, api.MaxOrbits)
		errors[e]++
		ends[r.End]++
		if len(r.Trace) > 1 {
			long[r.End]++
		}
		if len(w.turns()) > 1 && r.Orbits > 10 {
			alike++
		}
	}
	t.Log(ends, errors, long, alike)
	for _, end := range []int{api.Never, api.Dead, api.Wrong} {
		if ends[end] < 40 || long[end] < 20 {
			t.Errorf("too few models that end with %d: %v, with traces %v", end, ends, long)
		}
	}
	if ends[api.Safe] < 100 || errors[api.ErrBig] == 0 || alike < 100 {
		t.Errorf("too few models that are safe, big, or have many orbits: %v, %v, %d", ends, errors, alike)
	}
}

// Models as they come are bad early: so the first rounds are asked for many of them.
func TestP5AgainstAllStatesOfAnyModel(t *testing.T) {
	for number := range 600 {
		model := modelOf(uint64(2000 + number))
		w := readWorld(model)
		all, isWhole := w.rounds(t, 300)
		wantRounds(t, model, all, isWhole)
	}
}

// wantTurnedTrace asks that the members may change places in a trace: it leads to a state that is alike, and as bad.
func wantTurnedTrace(t *testing.T, w *world, model string, r api.Report) {
	t.Helper()
	plain, _, _ := orbits.Play(model, r.Trace)
	for _, by := range w.turns() {
		steps := w.stepTexts(by, r.Trace)
		v, e, at := orbits.Play(model, steps)
		if e != api.OK || at != 0 || !sameView(v, w.viewTurned(by, plain)) || !slices.Equal(endsOf(v), endsOf(plain)) {
			t.Errorf("P6: %q: %q leads to %+v, turned by %v to %+v, %d, %d", model, r.Trace, plain, by, v, e, at)
		}
	}
}

func TestP6TracesTurned(t *testing.T) {
	count := 0
	for number := range 600 {
		model := livelyOf(uint64(3000 + number))
		r, e := orbits.Search(model, api.MaxOrbits)
		if e != api.OK || len(r.Trace) == 0 || len(r.Trace) > api.MaxSteps {
			continue
		}
		w := readWorld(model)
		wantTurnedTrace(t, w, model, r)
		if len(w.turns()) > 1 && len(r.Trace) > 1 {
			count++
		}
	}
	if count < 50 {
		t.Errorf("too few traces: %d", count)
	}
}

// The sets may stand in any order, and so may the variables: the orbits are as many.
func TestP6OrderOfSetsAndVariables(t *testing.T) {
	sets := []string{"set p 3; ", "set q 2; "}
	vars := []string{"var f : [p] q; ", "var g : [q] p; ", "var v : p; ", "var a : [p] bool; "}
	rules := "rule r(i : p, j : q) if f[i] == none { f[i] = j; g[j] = i; } rule s(i : p) if v == none & f[i] != none { v = i; a[i] = true; } rule t(j : q) if v != none & g[j] == v { v = none; } "
	for _, more := range []string{"", "never n(i : p, j : p) i != j & a[i] & a[j];", "rule n(j : q) if g[j] != none { g[j] = none; } rule stay() if true { }"} {
		first, e := orbits.Search(sets[0]+sets[1]+strings.Join(vars, "")+rules+more, api.MaxOrbits)
		if e != api.OK || first.Orbits < 10 {
			t.Errorf("P5: %+v, %d", first, e)
		}
		for range 2 {
			slices.Reverse(sets)
			for range vars {
				vars = append(vars[1:], vars[0])
				model := strings.Join(sets, "") + strings.Join(vars, "") + rules + more
				wantSearch(t, model, len(first.Trace), first.Orbits, first.End)
			}
		}
	}
}
