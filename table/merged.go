package table

import (
	"slices"

	"presage/api"
	"presage/look"
	"presage/lr0"
)

const endMarker = 0

// place is where a cell stands.
type place struct{ state, term int }

// cells are actions by their places. Edges come state by state, lookaheads production by production: what belongs to one cell comes from several of them.
type cells map[place][]api.Action

// add puts actions into a cell, behind those that it has.
func (c cells) add(at place, actions ...api.Action) {
	c[at] = append(c[at], actions...)
}

// laid are the cells of all layers: what stands first among the layers stands first in each cell.
func laid(layers ...cells) cells {
	all := cells{}
	for _, layer := range layers {
		for at, actions := range layer {
			all.add(at, actions...)
		}
	}
	return all
}

// shifts are what the edges by terminals, the symbols below a number, say.
func shifts(terms int, states ...api.State) cells {
	layer := cells{}
	for from, state := range states {
		for _, edge := range state.Edges {
			if edge.Sym < terms {
				layer.add(place{from, edge.Sym}, api.Action{Kind: api.Shift, To: edge.To})
			}
		}
	}
	return layer
}

// accepts are what the added production says, where it is completed. Layer 13 tells no lookaheads of it: behind it stands the end marker alone.
func accepts(states ...api.State) cells {
	layer := cells{}
	for at, state := range states {
		if slices.Contains(state.Kernel, api.Item{Prod: 0, Dot: 1}) {
			layer.add(place{at, endMarker}, api.Action{Kind: api.Accept})
		}
	}
	return layer
}

// reductions are what the lookaheads of all other productions say. In a state these productions rise, and so they do in its cells.
func reductions(looks ...api.Look) cells {
	layer := cells{}
	for _, one := range looks {
		for _, term := range one.Terms {
			layer.add(place{one.State, term}, api.Action{Kind: api.Reduce, To: one.Prod})
		}
	}
	return layer
}

// merged is the merged table of a closed grammar; it has a cell, perhaps an empty one, by each of so many states and terminals.
type merged struct {
	states, terms int
	cells         cells
}

func mergedOf(g api.Grammar) (merged, api.Errno) {
	a, err := lr0.Build(g)
	if err != api.OK {
		return merged{}, err
	}
	looks, err := look.Sets(g)
	if err != api.OK {
		return merged{}, err
	}
	return merged{
		states: len(a.States),
		terms:  len(g.Terms),
		cells:  laid(shifts(len(g.Terms), a.States...), accepts(a.States...), reductions(looks...)),
	}, api.OK
}

func (m merged) has(at place) bool {
	return at.state >= 0 && at.state < m.states && at.term >= 0 && at.term < m.terms
}

// withActions are the cells with so many actions at least, in order.
func (m merged) withActions(least int) []api.Cell {
	var list []api.Cell
	for state := range m.states {
		for term := range m.terms {
			if actions := m.cells[place{state, term}]; len(actions) >= least {
				list = append(list, api.Cell{State: state, Term: term, Actions: actions})
			}
		}
	}
	return list
}
