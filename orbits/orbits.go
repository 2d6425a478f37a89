// Package orbits plays models and searches them up to symmetry: see DOC.md.
package orbits

import (
	"orbits/api"
	"orbits/check"
	"orbits/machine"
	"orbits/play"
	"orbits/search"
)

// Check tells what is wrong with a model (P3).
func Check(model string) (api.Errno, int) {
	_, e, at := check.Text(model)
	return e, at
}

// Play plays steps (P4).
func Play(model string, steps []string) (api.View, api.Errno, int) {
	tree, e, at := check.Text(model)
	if e != api.OK {
		return api.View{}, e, at
	}
	return play.Walk(machine.New(tree), steps)
}

// Search looks for a bad state (P5).
func Search(model string, most int) (api.Report, api.Errno) {
	tree, e, _ := check.Text(model)
	if e != api.OK {
		return api.Report{}, e
	}
	return search.Rounds(machine.New(tree), most)
}
