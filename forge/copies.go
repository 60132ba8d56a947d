package forge

import "presage/api"

// copyOf is a list in new memory. (slices.Clone of a list without elements keeps pointing at the old one.)
func copyOf[T any](list []T) []T { return append([]T(nil), list...) }

// copyOfEach is a list in new memory, of copies of what is in it.
func copyOfEach[T any](copied func(one T) T, list ...T) []T {
	copies := make([]T, len(list))
	for i, one := range list {
		copies[i] = copied(one)
	}
	return copies
}

func copyOfAutomaton(a api.Automaton) api.Automaton {
	a.States = copyOfEach(copyOfState, a.States...)
	return a
}

func copyOfState(s api.State) api.State {
	return api.State{Kernel: copyOf(s.Kernel), Edges: copyOf(s.Edges)}
}

func copyOfLook(l api.Look) api.Look {
	l.Terms = copyOf(l.Terms)
	return l
}

func copyOfSettled(s api.Settled) api.Settled {
	return api.Settled{
		Dense: api.Dense{
			Actions: copyOfEach(copyOf, s.Dense.Actions...),
			Gotos:   copyOfEach(copyOf, s.Dense.Gotos...),
		},
		Conflicts: copyOfEach(copyOfCell, s.Conflicts...),
	}
}

func copyOfCell(c api.Cell) api.Cell {
	c.Actions = copyOf(c.Actions)
	return c
}

func copyOfPacked(p api.Packed) api.Packed {
	return api.Packed{
		Defaults: copyOf(p.Defaults),
		Actions:  copyOfRows(p.Actions),
		Targets:  copyOf(p.Targets),
		Gotos:    copyOfRows(p.Gotos),
	}
}

func copyOfRows(r api.Rows) api.Rows {
	return api.Rows{Bases: copyOf(r.Bases), Values: copyOf(r.Values), Owners: copyOf(r.Owners)}
}
