package check

import (
	"orbits/api"
	"orbits/syntax"
)

func tooMany(model syntax.Model) fault {
	var bad fault
	for i, set := range model.Sets {
		bad.count(i, api.MaxSets, set.Name)
		bad.size(set.Size, 2, api.MaxSize)
	}
	for i, kind := range model.Kinds {
		bad.count(i, api.MaxKinds, kind.Name)
		for j, member := range kind.Members {
			bad.count(j, api.MaxMembers, member)
		}
	}
	for i, variable := range model.Vars {
		bad.count(i, api.MaxVars, variable.Name)
		if variable.Simple.Form == syntax.To {
			bad.size(variable.Simple.Top, 1, api.MaxTop)
		}
	}
	for i, rule := range model.Rules {
		bad.count(i, api.MaxRules, rule.Name)
		bad.countParams(rule.Params)
	}
	for i, never := range model.Nevers {
		bad.count(i, api.MaxNevers, never.Name)
		bad.countParams(never.Params)
	}
	return bad
}

func (f *fault) countParams(params []syntax.Param) {
	for i, param := range params {
		f.count(i, api.MaxParams, param.Name)
	}
}

// count notes a name that has as many of its sort ahead of it as there may be in all.
func (f *fault) count(ahead, most int, name syntax.Name) {
	if ahead >= most {
		f.note(name.At)
	}
}

func (f *fault) size(digit syntax.Digit, least, most int) {
	if digit.Value < least || digit.Value > most {
		f.note(digit.At)
	}
}
