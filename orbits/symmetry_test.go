package orbits_test

import (
	"math/rand/v2"
	"slices"
	"strconv"
	"strings"
	"testing"

	"orbits/api"
	"orbits/orbits"
)

// turn tells for each set to which place each member goes.
type turn map[string][]int

// turns are all ways in which the members of the sets can change places, each set in a way of its own.
func (w *world) turns() []turn {
	all := []turn{{}}
	for _, set := range []string{"p", "q", "s"} {
		if w.sizes[set] == 0 {
			continue
		}
		var more []turn
		for _, t := range all {
			for _, order := range [][]int{{0, 1}, {1, 0}, {0, 1, 2}, {0, 2, 1}, {1, 0, 2}, {1, 2, 0}, {2, 0, 1}, {2, 1, 0}} {
				if len(order) == w.sizes[set] {
					longer := turn{set: order}
					for other, kept := range t {
						longer[other] = kept
					}
					more = append(more, longer)
				}
			}
		}
		all = more
	}
	return all
}

func (t turn) member(set, text string) string {
	order, isSet := t[set]
	if !isSet || text == "-" {
		return text
	}
	n, _ := strconv.Atoi(text)
	return strconv.Itoa(order[n])
}

// stateText turns the text of a state.
func (w *world) stateText(t turn, text string) string {
	values := strings.Fields(strings.NewReplacer("[", " ", "]", " ").Replace(text))
	var all []string
	for _, v := range w.vars {
		if v.over == "" {
			all = append(all, t.member(v.of, values[0]))
			values = values[1:]
			continue
		}
		size := w.sizes[v.over]
		turned := make([]string, size)
		for i, value := range values[:size] {
			turned[t[v.over][i]] = t.member(v.of, value)
		}
		values = values[size:]
		all = append(all, "["+strings.Join(turned, " ")+"]")
	}
	return strings.Join(all, " ")
}

// stepText turns the text of an instance of a rule or never.
func (w *world) stepText(t turn, text string) string {
	name, behind, _ := strings.Cut(text, "(")
	members := strings.Split(strings.TrimSuffix(behind, ")"), ",")
	for _, p := range w.parts {
		for i, set := range p.sets {
			if p.name == name {
				members[i] = t.member(set, members[i])
			}
		}
	}
	return name + "(" + strings.Join(members, ",") + ")"
}

func (w *world) stepTexts(t turn, texts []string) (turned []string) {
	for _, text := range texts {
		turned = append(turned, w.stepText(t, text))
	}
	return turned
}

// inOrder puts instances into their order.
func (w *world) inOrder(texts []string) (ordered []string) {
	for _, g := range append(w.instances(true), w.instances(false)...) {
		if slices.Contains(texts, g.text) {
			ordered = append(ordered, g.text)
		}
	}
	return ordered
}

func (w *world) viewTurned(t turn, v api.View) api.View {
	list := func(texts []string) []string { return w.inOrder(w.stepTexts(t, texts)) }
	return api.View{Text: w.stateText(t, v.Text), Enabled: list(v.Enabled), Wrong: list(v.Wrong), Broken: list(v.Broken), Dead: v.Dead}
}

func wantTurned(t *testing.T, w *world, model string, steps []string) {
	t.Helper()
	plain, e, at := orbits.Play(model, steps)
	for _, by := range w.turns() {
		turned, turnedE, turnedAt := orbits.Play(model, w.stepTexts(by, steps))
		if turnedE != e || turnedAt != at {
			t.Fatalf("P6: %q: steps %q tell %d, %d; turned by %v they tell %d, %d", model, steps, e, at, by, turnedE, turnedAt)
		}
		if e == api.OK && !sameView(turned, w.viewTurned(by, plain)) {
			t.Fatalf("P6: %q: steps %q lead to %+v; turned by %v to %+v", model, steps, plain, by, turned)
		}
	}
}

func TestP6MembersChangePlaces(t *testing.T) {
	for _, c := range []struct{ steps, turned, text string }{
		{"ask(0) get(0)", "ask(2) get(2)", "[idle idle crit] 2"},
		{"ask(0) ask(1) get(1)", "ask(1) ask(2) get(2)", "[idle busy crit] 2"},
		{"ask(0) ask(1) ask(2) get(2)", "ask(2) ask(1) ask(0) get(0)", "[crit busy busy] 0"},
	} {
		plain, _, _ := orbits.Play(mutex, strings.Fields(c.steps))
		turned, e, at := orbits.Play(mutex, strings.Fields(c.turned))
		if e != api.OK || at != 0 || turned.Text != c.text || len(turned.Enabled) != len(plain.Enabled) {
			t.Errorf("P6: Play(mutex, %q) = %+v, %d, %d, want %q, and as many enabled as %+v", c.turned, turned, e, at, c.text, plain)
		}
	}
	// Each set in a way of its own: p changes places, q does not, and the other way round.
	two := "set p 2; set q 3; var own : [q] p; var at : q; rule take(i : p, r : q) if own[r] == none { own[r] = i; at = r; } rule pass(i : p) if own[at] != i { own[at] = i; }"
	for steps, text := range map[string]string{
		"take(0,0) take(1,2)":         "[0 - 1] 2",
		"take(1,0) take(0,2)":         "[1 - 0] 2",
		"take(0,2) take(1,1)":         "[- 1 0] 1",
		"take(1,2) take(0,1) pass(1)": "[- 1 1] 1",
		"take(0,0) take(1,2) pass(0)": "[0 - 0] 2",
	} {
		if v, e, at := orbits.Play(two, strings.Fields(steps)); e != api.OK || at != 0 || v.Text != text {
			t.Errorf("P6: Play(%q, %q) = %+v, %d, %d, want %q", two, steps, v, e, at, text)
		}
	}
}

func TestP6AllTurnsOfWalks(t *testing.T) {
	hand := []string{mutex, full, strings.Replace(mutex, " & own == none", "", 1), strings.Replace(mutex, "own = none;", "", 1), rich("v != i", "w[i] = v; v = i; n = n + 1;")}
	bad, long := 0, 0
	for number := range 300 {
		model := modelOf(uint64(1000 + number))
		if number < len(hand) {
			model = hand[number]
		}
		w := readWorld(model)
		pick := rand.New(rand.NewPCG(uint64(number), 2))
		walk(w, pick, func(steps []string, s position) {
			if len(steps) > 4 && len(steps)%10 != 0 {
				return
			}
			wantTurned(t, w, model, steps)
			all := w.instances(true)
			wantTurned(t, w, model, append(slices.Clone(steps), all[pick.IntN(len(all))].text))
			if v := w.view(s); len(v.Wrong)+len(v.Broken) > 0 || v.Dead {
				bad++
			}
			if len(steps) == api.MaxSteps {
				long++
			}
		})
	}
	if bad < 50 || long < 50 {
		t.Errorf("too few walks: %d bad states, %d long ones", bad, long)
	}
}
