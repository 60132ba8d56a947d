package trans

import (
	"presage/api"
	"presage/lr0"
)

const (
	endMarker = 0
	nowhere   = -1
)

// outset is where an edge begins: a state, and the edge's symbol.
type outset struct{ state, sym int }

// automaton is that of a closed grammar. Ways are long and states may have many edges, so where an edge leads is looked up by its outset.
type automaton struct {
	grammar api.Grammar
	states  []api.State
	leads   map[outset]int
}

func automatonOf(g api.Grammar) (automaton, api.Errno) {
	built, err := lr0.Build(g)
	if err != api.OK {
		return automaton{}, err
	}
	leads := map[outset]int{}
	for from, state := range built.States {
		for _, edge := range state.Edges {
			leads[outset{from, edge.Sym}] = edge.To
		}
	}
	return automaton{grammar: g, states: built.States, leads: leads}, api.OK
}

// transitions are the edges by nonterminals; they stand in order, since states and their edges do.
func (a automaton) transitions() []api.Trans {
	var all []api.Trans
	for from, state := range a.states {
		for _, edge := range state.Edges {
			if !a.isTerm(edge.Sym) {
				all = append(all, api.Trans{State: from, Sym: edge.Sym})
			}
		}
	}
	return all
}

// walk is the state to which a row leads from a state on, or nowhere.
func (a automaton) walk(from int, syms ...int) int {
	at := from
	for _, sym := range syms {
		to, there := a.leads[outset{at, sym}]
		if !there {
			return nowhere
		}
		at = to
	}
	return at
}

// direct are the terminals that may stand right behind a transition. No state has an edge by the end marker: it stands behind the whole, which is the way from state 0 by the start symbol.
func (a automaton) direct(t api.Trans) []int {
	var terms []int
	if t == (api.Trans{State: 0, Sym: a.grammar.Start}) {
		terms = append(terms, endMarker)
	}
	for _, edge := range a.states[a.walk(t.State, t.Sym)].Edges {
		if a.isTerm(edge.Sym) {
			terms = append(terms, edge.Sym)
		}
	}
	return terms
}

func (a automaton) isTerm(sym int) bool { return sym < len(a.grammar.Terms) }

func (a automaton) isNoSymbol(sym int) bool {
	return sym < 0 || sym >= len(a.grammar.Terms)+len(a.grammar.Nons)
}
