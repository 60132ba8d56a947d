package relate

import (
	"presage/api"
	"presage/first"
	"presage/lr0"
	"presage/trans"
)

// automaton is that of a closed grammar. Each transition goes over all productions of its nonterminal, so where an edge leads, and which number it has, stands in tables; these are asked only where there is an edge.
type automaton struct {
	grammar     api.Grammar
	nullable    []bool // by nonterminal
	states      []api.State
	transitions []api.Trans
	leads       [][]int // by state and symbol: the state to which the edge leads
	numbers     [][]int // by state and nonterminal's symbol: the transition's number
}

func automatonOf(g api.Grammar) (automaton, api.Errno) {
	built, err := lr0.Build(g)
	if err != api.OK {
		return automaton{}, err
	}
	a := automaton{grammar: g, states: built.States}
	// Where there is an automaton, these have no error.
	a.transitions, _ = trans.List(g)
	a.nullable, _ = first.Nullable(g)
	symbols := len(g.Terms) + len(g.Nons)
	for _, state := range a.states {
		leads := make([]int, symbols)
		for _, edge := range state.Edges {
			leads[edge.Sym] = edge.To
		}
		a.leads = append(a.leads, leads)
		a.numbers = append(a.numbers, make([]int, symbols))
	}
	for number, t := range a.transitions {
		a.numbers[t.State][t.Sym] = number
	}
	return a, api.OK
}

func (a automaton) isTerm(sym int) bool { return sym < len(a.grammar.Terms) }

func (a automaton) vanishes(sym int) bool {
	return !a.isTerm(sym) && a.nullable[sym-len(a.grammar.Terms)]
}

// ways hands out each transition with each production of its nonterminal, and the states through which the production's Right leads from there. Since the nonterminal has an edge there, its productions begin there, and none of these ways is lost.
func (a automaton) ways(hand func(number, prod int, through []int)) {
	for number, t := range a.transitions {
		for prod, p := range a.grammar.Prods {
			if p.Left == t.Sym {
				hand(number, prod, a.through(t.State, p.Right...))
			}
		}
	}
}

// through are the states of a way: the one where it begins, and one behind each symbol.
func (a automaton) through(from int, syms ...int) []int {
	states := make([]int, 1+len(syms))
	states[0] = from
	for i, sym := range syms {
		states[i+1] = a.leads[states[i]][sym]
	}
	return states
}
