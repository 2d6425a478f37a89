// Package play walks along the steps of a model, and looks at the state to which they lead.
package play

import (
	"orbits/api"
	"orbits/machine"
)

// Walk makes the steps one behind the other, from the first state on. If it can't, it tells the error and its place.
func Walk(m *machine.Machine, steps []string) (api.View, api.Errno, int) {
	if len(steps) > api.MaxSteps {
		return api.View{}, api.ErrArg, 0
	}
	state := m.First()
	for i, text := range steps {
		next, ok := behind(m, state, text)
		if !ok {
			return api.View{}, api.ErrStep, i
		}
		state = next
	}
	return Look(m, state), api.OK, 0
}

func behind(m *machine.Machine, state machine.State, text string) (machine.State, bool) {
	for _, step := range m.Steps {
		if step.Text == text {
			next, outcome := step.From(state)
			return next, outcome == machine.Enabled
		}
	}
	return nil, false
}

// Look tells what the instances of a model come to in a state.
func Look(m *machine.Machine, state machine.State) api.View {
	view := api.View{Text: m.Text(state)}
	for _, step := range m.Steps {
		switch _, outcome := step.From(state); outcome {
		case machine.Enabled:
			view.Enabled = append(view.Enabled, step.Text)
		case machine.Wrong:
			view.Wrong = append(view.Wrong, step.Text)
		}
	}
	for _, never := range m.Nevers {
		if never.IsBroken(state) {
			view.Broken = append(view.Broken, never.Text)
		}
	}
	view.Dead = len(view.Enabled) == 0 && len(view.Wrong) == 0
	return view
}
