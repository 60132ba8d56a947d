package digraph

import "math"

// closed is the low of a node whose component was handed over: no open one is lowered by it.
const closed = math.MaxInt

// visit is a node on the way that is being gone.
type visit struct {
	node  int
	place int // among the open nodes, from 1 on
	gone  int // how many of its steps are done with
}

// search goes all ways of a relation, by a stack of its own, since a way may have more nodes than calls can be nested.
type search struct {
	edges [][]int
	way   []visit
	open  []int // the nodes that were met, but whose components are not yet handed over
	lows  []int // by node: 0, if it was not met; the lowest place of an open node that a way is known to lead to; closed
}

// eachComponent hands over each component, behind all those to which ways lead from it. The nodes are the taker's until it answers.
func eachComponent(edges [][]int, hand func(nodes ...int)) {
	s := &search{edges: edges, lows: make([]int, len(edges))}
	for node := range edges {
		if s.lows[node] == 0 {
			s.enter(node)
			s.finish(hand)
		}
	}
}

func (s *search) enter(node int) {
	s.open = append(s.open, node)
	s.lows[node] = len(s.open)
	s.way = append(s.way, visit{node: node, place: len(s.open)})
}

// finish goes on till nothing is left of the way. A step to a node that was not met is looked at again when that one is done, and then tells how low it came.
func (s *search) finish(hand func(nodes ...int)) {
way:
	for len(s.way) > 0 {
		v := &s.way[len(s.way)-1]
		for v.gone < len(s.edges[v.node]) {
			to := s.edges[v.node][v.gone]
			if s.lows[to] == 0 {
				s.enter(to)
				continue way
			}
			s.lows[v.node] = min(s.lows[v.node], s.lows[to])
			v.gone++
		}
		s.leave(*v, hand)
	}
}

// leave takes the last node off the way. If no open node before it can be come to from there, it and all behind it are a component.
func (s *search) leave(v visit, hand func(nodes ...int)) {
	s.way = s.way[:len(s.way)-1]
	if s.lows[v.node] < v.place {
		return
	}
	component := s.open[v.place-1:]
	s.open = s.open[:v.place-1]
	for _, node := range component {
		s.lows[node] = closed
	}
	hand(component...)
}
