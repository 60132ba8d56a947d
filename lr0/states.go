package lr0

import (
	"slices"

	"presage/api"
)

// maker makes the automaton of a closed grammar. A list of items can't be a map's key, so kernels are interned by their first items: few states have one in common.
type maker struct {
	grammar api.Grammar
	made    api.Automaton
	begins  map[api.Item][]int // by a kernel's first item: the states whose kernels begin with it
}

func newMaker(g api.Grammar) *maker {
	return &maker{grammar: g, begins: map[api.Item][]int{}}
}

// automaton are all states, each found by an edge of an earlier one.
func (m *maker) automaton() (api.Automaton, api.Errno) {
	m.ask(api.Item{})
	for from := 0; from < len(m.made.States); from++ {
		if !m.leave(from) {
			return api.Automaton{}, api.ErrTooBig
		}
	}
	return m.made, api.OK
}

// leave makes the edges of a state; false: one of them would lead to a state too many.
func (m *maker) leave(from int) bool {
	var edges []api.Edge
	for sym, kernel := range kernels(m.grammar, m.made.States[from].Kernel...) {
		if len(kernel) == 0 {
			continue
		}
		to, ok := m.ask(kernel...)
		if !ok {
			return false
		}
		edges = append(edges, api.Edge{Sym: sym, To: to})
	}
	m.made.States[from].Edges = edges
	return true
}

// ask is the state that has this kernel, a new one if there is none; false: that would be one too many.
func (m *maker) ask(kernel ...api.Item) (state int, ok bool) {
	m.made.Asked++
	alike := m.begins[kernel[0]]
	for _, known := range alike {
		if slices.Equal(m.made.States[known].Kernel, kernel) {
			return known, true
		}
	}
	state = len(m.made.States)
	if state == api.MaxStates {
		return 0, false
	}
	m.made.Interned++
	m.made.States = append(m.made.States, api.State{Kernel: kernel})
	m.begins[kernel[0]] = append(alike, state)
	return state, true
}
