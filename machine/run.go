package machine

import "orbits/syntax"

// run is an instance at work on a state. Once it is wrong it stays so, whatever else it works out.
type run struct {
	instance
	state State
	wrong bool
}

func (r *run) do(block []syntax.Stmt) {
	for _, stmt := range block {
		if stmt.IsIf {
			r.choose(stmt)
		} else {
			r.assign(stmt)
		}
	}
}

func (r *run) choose(stmt syntax.Stmt) {
	if r.isTrue(stmt.Expr) {
		r.do(stmt.Then)
	} else {
		r.do(stmt.Else)
	}
}

func (r *run) assign(stmt syntax.Stmt) {
	value := r.value(stmt.Expr)
	v := r.variable(stmt.Place.Name)
	at := r.at(v, stmt.Place)
	if value < 0 || value >= len(v.texts) {
		r.wrong = true
		return
	}
	r.state[at] = uint8(value)
}

func (r *run) isTrue(e *syntax.Expr) bool { return r.value(e) == 1 }

// value is the number that stands for a value in a state; a truth is 0 or 1, and numbers may be any.
func (r *run) value(e *syntax.Expr) int {
	switch e.Op {
	case syntax.True:
		return 1
	case syntax.False, syntax.None:
		return 0
	case syntax.Number:
		return e.Digit
	case syntax.Value:
		return r.placeValue(e.Place)
	case syntax.Not:
		return 1 - r.value(e.Left)
	}
	// Both sides are worked out whatever the first one is: each of them may go wrong.
	return join(e.Op, r.value(e.Left), r.value(e.Right))
}

func join(op syntax.Op, left, right int) int {
	switch op {
	case syntax.And:
		return min(left, right)
	case syntax.Or:
		return max(left, right)
	case syntax.Plus:
		return left + right
	case syntax.Minus:
		return left - right
	case syntax.Less:
		return truth(left < right)
	case syntax.Differ:
		return truth(left != right)
	}
	return truth(left == right)
}

func truth(holds bool) int {
	if holds {
		return 1
	}
	return 0
}

func (r *run) placeValue(place syntax.Place) int {
	if place.Indexed {
		return int(r.state[r.at(r.variable(place.Name), place)])
	}
	return r.single(place.Name)
}

func (r *run) single(name syntax.Name) int {
	for i, param := range r.params {
		if param.Name.Text == name.Text {
			return r.members[i] + 1
		}
	}
	if m := r.machine.names[name.Text]; !m.isVar {
		return m.number
	}
	return int(r.state[r.variable(name).first])
}

func (r *run) variable(name syntax.Name) variable {
	return r.machine.vars[r.machine.names[name.Text].number]
}

// at is where in the state a place of a variable stands. If its index is none, it is any of its places: nothing of what comes of it is told.
func (r *run) at(v variable, place syntax.Place) int {
	if !place.Indexed {
		return v.first
	}
	index := r.single(place.Index)
	if index == 0 {
		r.wrong = true
		return v.first
	}
	return v.first + index - 1
}
