package resolve

import (
	"slices"

	"presage/api"
	"presage/table"
)

const noState = -1

// settled is the merged table of a closed grammar, which has these states, when levels have spoken.
func settled(g api.Grammar, states ...api.State) (api.Settled, api.Errno) {
	cells, err := table.Merged(g)
	if err != api.OK {
		return api.Settled{}, err
	}
	s := api.Settled{Dense: withoutActions(g, states...)}
	for _, c := range cells {
		r := restOf(g, c.Term, c.Actions...)
		s.Dense.Actions[c.State][c.Term] = r.taken()
		if open := r.open(); len(open) > 0 {
			s.Conflicts = append(s.Conflicts, api.Cell{State: c.State, Term: c.Term, Actions: open})
		}
	}
	return s, api.OK
}

// withoutActions is a table that has the edges by nonterminals, and {None, 0}, the zero action, in each cell.
func withoutActions(g api.Grammar, states ...api.State) api.Dense {
	d := api.Dense{Actions: make([][]api.Action, len(states)), Gotos: make([][]int, len(states))}
	for i, state := range states {
		d.Actions[i] = make([]api.Action, len(g.Terms))
		d.Gotos[i] = gotos(g, state.Edges...)
	}
	return d
}

// gotos are, by nonterminal, the states to which the edges lead.
func gotos(g api.Grammar, edges ...api.Edge) []int {
	to := slices.Repeat([]int{noState}, len(g.Nons))
	for _, edge := range edges {
		if non := edge.Sym - len(g.Terms); non >= 0 {
			to[non] = edge.To
		}
	}
	return to
}
