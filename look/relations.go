package look

import (
	"presage/api"
	"presage/digraph"
	"presage/relate"
	"presage/trans"
)

// relation is a row of the table: to which transitions each of its nodes leads, and what the nodes have of the terminals there.
type relation struct {
	edges func(g api.Grammar) ([][]int, api.Errno)
	solve func(edges, terms [][]int) ([][]int, api.Errno)
}

// How many rows of the table, from the first on, make the lists of a call; those of Sets are made by all of them.
const (
	reading   = 1
	following = 2
)

// relations is the table. Each row takes up the lists that the one ahead of it made, the first those of the terminals right behind a transition. The nodes of the last one are completed productions, which are found together with their edges: so they are handed in.
func relations(backs ...api.Back) []relation {
	lookback := func(api.Grammar) ([][]int, api.Errno) {
		edges := make([][]int, len(backs))
		for i, back := range backs {
			edges[i] = back.Trans
		}
		return edges, api.OK
	}
	return []relation{
		{edges: relate.Reads, solve: digraph.Solve},
		{edges: relate.Includes, solve: digraph.Solve},
		{edges: lookback, solve: gather},
	}
}

// made are the lists that the last of some rows makes.
func made(g api.Grammar, rows ...relation) ([][]int, api.Errno) {
	lists, err := trans.Direct(g)
	if err != api.OK {
		return nil, err
	}
	for _, row := range rows {
		edges, err := row.edges(g)
		if err != api.OK {
			return nil, err
		}
		if lists, err = row.solve(edges, lists); err != api.OK {
			return nil, err
		}
	}
	return lists, api.OK
}

// gather gives nodes that have no terminals of their own, and to which nothing leads, those of the transitions to which they lead: a solution too, with these nodes behind the transitions.
func gather(edges, terms [][]int) ([][]int, api.Errno) {
	transitions := len(terms)
	allEdges := append(make([][]int, transitions), edges...)
	allTerms := append(terms[:transitions:transitions], make([][]int, len(edges))...)
	lists, err := digraph.Solve(allEdges, allTerms)
	if err != api.OK {
		return nil, err
	}
	return lists[transitions:], api.OK
}
