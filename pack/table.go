package pack

import "presage/api"

// The kinds of actions, numbered as in package api, and how many they are.
const (
	none = iota
	shift
	reduce
	accept
	refuse
	kinds
)

// nothing is the number of no production and of no state.
const nothing = -1

// mayBePacked tells whether a table has lists of actions and of states for as many states as may be.
func mayBePacked(d api.Dense) bool {
	states := len(d.Actions)
	if states > api.MaxStates || len(d.Gotos) != states {
		return false
	}
	isGoto := func(to int) bool { return to >= nothing && to < states }
	isAction := func(action api.Action) bool { return mayStand(action, states) }
	return isHalf(isAction, d.Actions...) && isHalf(isGoto, d.Gotos...)
}

// isHalf tells whether lists are of one length that may be, and all that is in them may stand there.
func isHalf[T any](fits func(one T) bool, lists ...[]T) bool {
	if len(lists) == 0 || len(lists[0]) == 0 || len(lists[0]) > api.MaxSyms+1 {
		return false
	}
	for _, list := range lists {
		if len(list) != len(lists[0]) {
			return false
		}
		for _, one := range list {
			if !fits(one) {
				return false
			}
		}
	}
	return true
}

// mayStand tells whether an action may stand in a table of so many states.
func mayStand(action api.Action, states int) bool {
	switch action.Kind {
	case shift:
		return action.To >= 0 && action.To < states
	case reduce:
		return action.To > 0 && action.To <= api.MaxProds
	}
	return action.Kind >= none && action.Kind < kinds && action.To == 0
}

// codeOf is the number by which an action is kept: Accept, whose To is 0, stands where a reduction by the added production would.
func codeOf(action api.Action) int {
	switch action.Kind {
	case shift:
		return 1 + action.To
	case reduce, accept:
		return -1 - action.To
	}
	return 0
}

// actionOf is the action that is kept by a number.
func actionOf(code int) api.Action {
	switch {
	case code > 0:
		return api.Action{Kind: shift, To: code - 1}
	case code == 0:
		return api.Action{Kind: refuse}
	case code == -1:
		return api.Action{Kind: accept}
	}
	return api.Action{Kind: reduce, To: -1 - code}
}

// packedActions are of each list of actions the production by which most reduce, and all lists without what that tells.
func packedActions(lists ...[]api.Action) (defaults []int, rest api.Rows) {
	var rows [][]api.Edge
	for _, list := range lists {
		most := mostOften(reducedBy, list...)
		var row []api.Edge
		for term, action := range list {
			if action.Kind != none && action != (api.Action{Kind: reduce, To: most}) {
				row = append(row, api.Edge{Sym: term, To: codeOf(action)})
			}
		}
		defaults, rows = append(defaults, most), append(rows, row)
	}
	return defaults, laid(rows...)
}

// reducedBy is the production by which an action reduces, -1: it does not.
func reducedBy(action api.Action) int {
	if action.Kind == reduce {
		return action.To
	}
	return nothing
}

// packedGotos are of each nonterminal the state to which most lists lead, and what the lists have besides.
func packedGotos(lists ...[]int) (targets []int, rest api.Rows) {
	var rows [][]api.Edge
	for non := range lists[0] {
		most := mostOften(func(list []int) int { return list[non] }, lists...)
		var row []api.Edge
		for state, list := range lists {
			if to := list[non]; to != nothing && to != most {
				row = append(row, api.Edge{Sym: state, To: to})
			}
		}
		targets, rows = append(targets, most), append(rows, row)
	}
	return targets, laid(rows...)
}

// mostOften is the number that most of a list tell, of several the least; -1 does not count, and is the answer if all tell it.
func mostOften[T any](number func(one T) int, list ...T) int {
	counts := map[int]int{}
	most := nothing
	for _, one := range list {
		told := number(one)
		if told == nothing {
			continue
		}
		counts[told]++
		if counts[told] > counts[most] || counts[told] == counts[most] && told < most {
			most = told
		}
	}
	return most
}
