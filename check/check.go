// Package check tells the first thing that is wrong with a model.
package check

import (
	"orbits/api"
	"orbits/syntax"
)

// Text tells the first error of a model's text, and its place. The tree is of use only if there is none.
func Text(text string) (syntax.Model, api.Errno, int) {
	if len(text) > api.MaxText {
		return syntax.Model{}, api.ErrLong, 0
	}
	tokens, bad, ok := syntax.Scan(text)
	if !ok {
		return syntax.Model{}, api.ErrToken, bad
	}
	model, bad, ok := syntax.Parse(tokens)
	if !ok {
		return syntax.Model{}, api.ErrSyntax, bad
	}
	e, at := tree(model)
	return model, e, at
}

func tree(model syntax.Model) (api.Errno, int) {
	if bad := tooMany(model); bad.found {
		return api.ErrMany, bad.at
	}
	names := gather(model)
	if bad := wrongName(model, names); bad.found {
		return api.ErrName, bad.at
	}
	if !typesFit(model, names) {
		return api.ErrType, 0
	}
	return api.OK, 0
}

// fault keeps the first place in the text of all that are noted.
type fault struct {
	found bool
	at    int
}

func (f *fault) note(at int) {
	if !f.found || at < f.at {
		f.found = true
		f.at = at
	}
}
