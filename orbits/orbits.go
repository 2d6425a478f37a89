// Package orbits plays models and searches them up to symmetry: see DOC.md.
package orbits

import (
	"orbits/api"
	"orbits/check"
)

// Check tells what is wrong with a model (P3).
func Check(model string) (api.Errno, int) { return check.Text(model) }

// Play plays steps (P4).
func Play(model string, steps []string) (api.View, api.Errno, int) {
	return api.View{}, api.OK, 0
}

// Search looks for a bad state (P5).
func Search(model string, most int) (api.Report, api.Errno) { return api.Report{}, api.OK }
