package resolve

import "presage/api"

// sides are what a level says of a production and a terminal that both have it, by its side.
var sides = [...]int{api.Left: api.TakeReduce, api.Right: api.TakeShift, api.Neither: api.TakeNone}

// side is what levels say of a production and a terminal of a closed grammar.
func side(g api.Grammar, prod, term int) int {
	ofProd, ofTerm := g.Prods[prod].Level, g.Terms[term].Level
	switch {
	case ofProd == 0 || ofTerm == 0:
		return api.Open
	case ofProd > ofTerm:
		return api.TakeReduce
	case ofProd < ofTerm:
		return api.TakeShift
	}
	return sides[g.Levels[ofProd-1]]
}

// rest is what levels leave of a cell's actions.
type rest struct {
	actions []api.Action
	refused bool // TakeNone was said
}

// restOf holds a cell's shift against all of its reductions, also where an earlier one has made it go.
func restOf(g api.Grammar, term int, actions ...api.Action) rest {
	if len(actions) == 0 || actions[0].Kind != api.Shift {
		return rest{actions: append([]api.Action(nil), actions...)}
	}
	var r rest
	var others []api.Action
	shiftStays := true
	for _, action := range actions[1:] {
		switch said(g, term, action) {
		case api.TakeShift: // the reduction goes
		case api.TakeNone:
			r.refused, shiftStays = true, false
		case api.TakeReduce:
			shiftStays = false
			fallthrough
		default:
			others = append(others, action)
		}
	}
	if shiftStays {
		r.actions = append(r.actions, actions[0])
	}
	r.actions = append(r.actions, others...)
	return r
}

// said is what levels say of a cell's shift and another one of its actions: of Accept, which has no production, nothing.
func said(g api.Grammar, term int, action api.Action) int {
	if action.Kind == api.Reduce {
		return side(g, action.To, term)
	}
	return api.Open
}

// taken is the action that the table has.
func (r rest) taken() api.Action {
	switch {
	case len(r.actions) > 0:
		return r.actions[0]
	case r.refused:
		return api.Action{Kind: api.Refuse}
	}
	return api.Action{Kind: api.None}
}

// open are the actions among which levels don't choose.
func (r rest) open() []api.Action {
	if len(r.actions) < 2 {
		return nil
	}
	return r.actions
}

// mayStand tells whether a cell of the merged table may have these actions: perhaps a shift, then perhaps Accept, then reductions by rising productions, the added one not.
func mayStand(g api.Grammar, actions ...api.Action) bool {
	if len(actions) > 0 && actions[0].Kind == api.Shift && actions[0].To >= 0 {
		actions = actions[1:]
	}
	if len(actions) > 0 && actions[0] == (api.Action{Kind: api.Accept}) {
		actions = actions[1:]
	}
	last := 0
	for _, action := range actions {
		if action.Kind != api.Reduce || action.To <= last || !isProd(g, action.To) {
			return false
		}
		last = action.To
	}
	return true
}

func isProd(g api.Grammar, prod int) bool { return prod >= 0 && prod < len(g.Prods) }

func isTerm(g api.Grammar, term int) bool { return term >= 0 && term < len(g.Terms) }
