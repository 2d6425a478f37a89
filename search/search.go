// Package search goes in rounds through all that can come of a model, and looks at states that are alike once.
package search

import (
	"slices"

	"orbits/api"
	"orbits/machine"
	"orbits/play"
	"orbits/rows"
)

// way leads to a state: by a step from the state to which another way leads, which is told by its number.
type way struct {
	state machine.State
	from  int
	step  string
}

// search keeps one way to each orbit that was seen, those of earlier rounds first. Its tables have an orbit's least state as the key: seen is of all rounds, found of the last one alone.
type search struct {
	orbits *machine.Orbits
	ways   []way
	seen   map[string]struct{}
	found  map[string]way
}

// Rounds searches for a bad state, as long as no more than so many orbits were seen.
func Rounds(m *machine.Machine, most int) (api.Report, api.Errno) {
	if most < 1 || most > api.MaxOrbits {
		return api.Report{}, api.ErrArg
	}
	s := search{orbits: m.Orbits(), seen: map[string]struct{}{}, found: map[string]way{}}
	s.find(way{state: m.First()})
	end, last := api.Safe, 0
rounds:
	for {
		first := s.keepNew()
		if len(s.ways) > most {
			return api.Report{}, api.ErrBig
		}
		if first == len(s.ways) {
			break rounds
		}
		for at := first; at < len(s.ways); at++ {
			if end = endAt(m, s.ways[at].state); end != api.Safe {
				last = at
				break rounds
			}
		}
		clear(s.found)
	states:
		for at := first; at < len(s.ways); at++ {
			for _, step := range m.Steps {
				next, outcome := step.From(s.ways[at].state)
				if outcome != machine.Enabled {
					continue
				}
				s.find(way{state: next, from: at, step: step.Text})
				// So many orbits are too many already, whichever of them are new.
				if len(s.found) > most {
					break states
				}
			}
		}
	}
	return api.Report{End: end, Trace: s.trace(last), Orbits: len(s.ways)}, api.OK
}

// find keeps the first way of a round to an orbit.
func (s *search) find(w way) {
	orbit := string(s.orbits.Least(w.state))
	if _, isFound := s.found[orbit]; !isFound {
		s.found[orbit] = w
	}
}

// keepNew keeps a way to each orbit that the round found and none ahead of it saw, and tells the number of the first one.
func (s *search) keepNew() int {
	first := len(s.ways)
	for orbit := range s.found {
		if _, isSeen := s.seen[orbit]; isSeen {
			delete(s.found, orbit)
		}
	}
	for _, orbit := range sorted(s.found) {
		s.seen[string(orbit)] = struct{}{}
		s.ways = append(s.ways, s.found[string(orbit)])
	}
	return first
}

// sorted is there because a map is gone through in any order, and no answer may hang on that.
func sorted(found map[string]way) []machine.State {
	var orbits []machine.State
	for orbit := range found {
		orbits = append(orbits, machine.State(orbit))
	}
	rows.Sort(orbits)
	return orbits
}

// endAt is what a search ends with at a state: Safe, if the state is not bad.
func endAt(m *machine.Machine, state machine.State) int {
	switch view := play.Look(m, state); {
	case len(view.Broken) > 0:
		return api.Never
	case view.Dead:
		return api.Dead
	case len(view.Wrong) > 0:
		return api.Wrong
	}
	return api.Safe
}

// trace has the steps from the first state on, to which the way with the number 0 leads.
func (s *search) trace(last int) []string {
	var steps []string
	for at := last; at > 0; at = s.ways[at].from {
		steps = append(steps, s.ways[at].step)
	}
	slices.Reverse(steps)
	return steps
}
