package orbits_test

import (
	"math/rand/v2"
	"slices"
	"testing"

	"orbits/api"
	"orbits/orbits"
)

// walk calls visit with the steps so far and the state to which they lead, by the second reading, until nothing goes on or there may be no more.
func walk(w *world, pick *rand.Rand, visit func(steps []string, s position)) {
	s := w.start()
	var steps []string
	for {
		visit(steps, s)
		enabled := w.view(s).Enabled
		if len(enabled) == 0 || len(steps) == api.MaxSteps {
			return
		}
		text := enabled[pick.IntN(len(enabled))]
		s = w.step(s, text)
		steps = append(steps, text)
	}
}

func sameView(a, b api.View) bool { return asSeen(a) == asSeen(b) }

func TestP4AgainstSecondReading(t *testing.T) {
	hand := []string{mutex, full}
	count := map[string]int{}
	for number := range 600 {
		model := modelOf(uint64(number))
		if number < len(hand) {
			model = hand[number]
		}
		w := readWorld(model)
		pick := rand.New(rand.NewPCG(uint64(number), 1))
		walk(w, pick, func(steps []string, s position) {
			want := w.view(s)
			v, e, at := orbits.Play(model, steps)
			if e != api.OK || at != 0 || !sameView(v, want) {
				t.Fatalf("P4: Play(%q, %q) = %+v, %d, %d, want %+v", model, steps, v, e, at, want)
			}
			count["states"]++
			count["enabled"] += len(v.Enabled)
			count["wrong"] += len(v.Wrong)
			count["broken"] += len(v.Broken)
			if v.Dead {
				count["dead"]++
			}
			if len(steps) == api.MaxSteps {
				count["long"]++
			}
			if len(steps) < 5 {
				refused(t, w, model, steps, want)
			}
		})
	}
	for _, what := range []string{"states", "enabled", "wrong", "broken", "dead", "long"} {
		if count[what] < 50 {
			t.Errorf("too few %s among the walks: %v", what, count)
		}
	}
	t.Log(count)
}

// refused asks for each instance that is not enabled behind the steps, and for each of a never.
func refused(t *testing.T, w *world, model string, steps []string, v api.View) {
	t.Helper()
	for _, g := range append(w.instances(true), w.instances(false)...) {
		if !slices.Contains(v.Enabled, g.text) {
			wantStop(t, model, append(slices.Clone(steps), g.text), api.ErrStep, len(steps))
		}
	}
}
