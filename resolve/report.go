package resolve

import (
	"strconv"
	"strings"

	"presage/api"
	"presage/lr0"
	"presage/show"
)

// report lays a text down, open cell by open cell.
type report struct {
	strings.Builder
	grammar      api.Grammar
	symbol, prod func(number int) string
	item         func(item api.Item) string
	closure      func(state int) []api.Item
}

// newReport is an empty one, of a closed grammar that has these states.
func newReport(g api.Grammar, states ...api.State) *report {
	return &report{
		grammar: g,
		symbol:  remembered(func(sym int) (string, api.Errno) { return show.Symbol(g, sym) }),
		prod:    remembered(func(prod int) (string, api.Errno) { return show.Prod(g, prod) }),
		item:    remembered(func(item api.Item) (string, api.Errno) { return show.Item(g, item) }),
		closure: remembered(func(state int) ([]api.Item, api.Errno) { return lr0.Closure(g, states[state].Kernel...) }),
	}
}

// answer is what was answered once.
type answer[V any] struct{ of V }

// remembered asks but once of each key: many cells have the same items, and each layer below looks through the whole grammar at each call. Of what belongs to a closed grammar these have no error.
func remembered[K comparable, V any](ask func(K) (V, api.Errno)) func(K) V {
	answers := map[K]answer[V]{}
	return func(key K) V {
		one, there := answers[key]
		if !there {
			one.of, _ = ask(key)
			answers[key] = one
		}
		return one.of
	}
}

// cell lays down an open cell: its actions, and the items that they mean.
func (r *report) cell(c api.Cell) {
	var names []string
	for _, action := range c.Actions {
		names = append(names, r.name(action))
	}
	r.line("state ", strconv.Itoa(c.State), " at ", r.symbol(c.Term), ": ", strings.Join(names, ", "))
	for _, action := range c.Actions {
		for _, item := range r.meant(c, action) {
			r.line("  ", r.item(item))
		}
	}
}

func (r *report) name(action api.Action) string {
	switch action.Kind {
	case api.Shift:
		return "shift"
	case api.Accept:
		return "accept"
	}
	return "reduce " + r.prod(action.To)
}

// meant are the items that an action of a cell means.
func (r *report) meant(c api.Cell, action api.Action) []api.Item {
	switch action.Kind {
	case api.Shift:
		return r.ahead(c.State, c.Term)
	case api.Accept: // its To, 0, is the added production's number
		fallthrough
	default:
		return []api.Item{{Prod: action.To, Dot: len(r.grammar.Prods[action.To].Right)}}
	}
}

// ahead are the items of a state whose Dot stands ahead of a terminal.
func (r *report) ahead(state, term int) []api.Item {
	var items []api.Item
	for _, item := range r.closure(state) {
		if right := r.grammar.Prods[item.Prod].Right; item.Dot < len(right) && right[item.Dot] == term {
			items = append(items, item)
		}
	}
	return items
}

// line lays down a line of these pieces.
func (r *report) line(pieces ...string) {
	for _, piece := range pieces {
		r.WriteString(piece)
	}
	r.WriteByte('\n')
}
