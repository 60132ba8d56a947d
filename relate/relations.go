package relate

import "presage/api"

// reads hands out which transition reads which.
func (a automaton) reads(hand func(from, to int)) {
	for from, t := range a.transitions {
		behind := a.leads[t.State][t.Sym]
		for _, edge := range a.states[behind].Edges {
			if a.vanishes(edge.Sym) {
				hand(from, a.numbers[behind][edge.Sym])
			}
		}
	}
}

// includes hands out which transition includes which. A right side is gone over from its end, as long as what lies behind may vanish.
func (a automaton) includes(hand func(from, to int)) {
	a.ways(func(to, prod int, through []int) {
		right := a.grammar.Prods[prod].Right
		for i := len(right) - 1; i >= 0 && !a.isTerm(right[i]); i-- {
			hand(a.numbers[through[i]][right[i]], to)
			if !a.vanishes(right[i]) {
				return
			}
		}
	})
}

// lookback hands out which production, completed in which state, looks back to which transition.
func (a automaton) lookback(hand func(state, prod, to int)) {
	a.ways(func(to, prod int, through []int) {
		hand(through[len(through)-1], prod, to)
	})
}

// lists are of each transition those to which a relation leads from it. The relations hand these out rising, but one perhaps several times, then one right behind the other.
func (a automaton) lists(relation func(hand func(from, to int))) [][]int {
	lists := make([][]int, len(a.transitions))
	relation(func(from, to int) {
		if last := len(lists[from]) - 1; last < 0 || lists[from][last] != to {
			lists[from] = append(lists[from], to)
		}
	})
	return lists
}

// backs are what lookback hands out, by state and production. What is completed in a state began somewhere, at a transition of its Left: so no production is missed, and the added one, which has no transition, is not among them.
func (a automaton) backs() []api.Back {
	lookedTo := make([][][]int, len(a.states))
	for state := range lookedTo {
		lookedTo[state] = make([][]int, len(a.grammar.Prods))
	}
	a.lookback(func(state, prod, to int) {
		lookedTo[state][prod] = append(lookedTo[state][prod], to)
	})
	var backs []api.Back
	for state, prods := range lookedTo {
		for prod, transitions := range prods {
			if len(transitions) > 0 {
				backs = append(backs, api.Back{State: state, Prod: prod, Trans: transitions})
			}
		}
	}
	return backs
}
