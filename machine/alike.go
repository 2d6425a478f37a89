package machine

import (
	"slices"

	"orbits/rows"
)

// turn has for each set, by its number in the model, the places to which its members go.
type turn [][]int

// Orbits finds for each state the one that stands for its orbit.
type Orbits struct {
	machine *Machine
	turns   []turn
	turned  State
}

// Orbits has every way of the sets' members to change places.
func (m *Machine) Orbits() *Orbits {
	turns := []turn{nil}
	for _, size := range m.sets {
		var longer []turn
		for _, ahead := range turns {
			for _, order := range rows.Orders(size) {
				longer = append(longer, append(slices.Clone(ahead), order))
			}
		}
		turns = longer
	}
	return &Orbits{machine: m, turns: turns, turned: m.First()}
}

// Least is the least one of the states that are alike to a state. It is new.
func (o *Orbits) Least(state State) State {
	least := slices.Clone(state)
	for _, t := range o.turns {
		o.turn(t, state)
		rows.Lower(least, o.turned)
	}
	return least
}

func (o *Orbits) turn(t turn, state State) {
	for _, v := range o.machine.vars {
		for i := range v.count {
			o.turned[v.first+v.placeBehind(t, i)] = v.valueBehind(t, state[v.first+i])
		}
	}
}

func (v variable) placeBehind(t turn, place int) int {
	if v.over == noSet {
		return place
	}
	return t[v.over][place]
}

// valueBehind leaves none as it is: it is no member.
func (v variable) valueBehind(t turn, value uint8) uint8 {
	if v.of == noSet || value == 0 {
		return value
	}
	return uint8(t[v.of][value-1] + 1)
}
