package lr0

import (
	"cmp"
	"slices"

	"presage/api"
)

// nothing is what the Dot of a completed item stands ahead of.
const nothing = -1

// ahead is the symbol that an item's Dot stands ahead of.
func ahead(g api.Grammar, item api.Item) int {
	right := g.Prods[item.Prod].Right
	if item.Dot == len(right) {
		return nothing
	}
	return right[item.Dot]
}

// inOrder compares items by Prod, then by Dot.
func inOrder(a, b api.Item) int {
	return cmp.Or(cmp.Compare(a.Prod, b.Prod), cmp.Compare(a.Dot, b.Dot))
}

// closure are items and all that they bring along, in order, each once.
//
// A kernel may have many items, and stands in order already: what it brings along is laid in between rather than sorted with it.
func closure(g api.Grammar, items ...api.Item) []api.Item {
	given := append([]api.Item(nil), items...)
	slices.SortFunc(given, inOrder)
	brought := broughtBy(g, given...)
	var all []api.Item
	for prod, p := range g.Prods {
		if brought[p.Left] {
			all = append(all, api.Item{Prod: prod})
		}
		last := 0
		for last < len(given) && given[last].Prod == prod {
			last++
		}
		all = append(all, given[:last]...)
		given = given[last:]
	}
	return slices.Compact(all)
}

// broughtBy are, by symbol, whether it is a nonterminal whose productions items bring along. Each brings its own once, however many items stand ahead of it.
func broughtBy(g api.Grammar, items ...api.Item) []bool {
	brought := make([]bool, symbols(g))
	var left []int // whose productions are still to be looked at
	bring := func(sym int) {
		if sym >= len(g.Terms) && !brought[sym] {
			brought[sym] = true
			left = append(left, sym)
		}
	}
	for _, item := range items {
		bring(ahead(g, item))
	}
	for len(left) > 0 {
		non := left[len(left)-1]
		left = left[:len(left)-1]
		for prod, p := range g.Prods {
			if p.Left == non {
				bring(ahead(g, api.Item{Prod: prod}))
			}
		}
	}
	return brought
}

// kernels are, by symbol, the kernels behind these items; of most symbols none.
//
// The closure is gone over once for all symbols. It stands in order, and a Dot one more for all of them leaves it so.
func kernels(g api.Grammar, items ...api.Item) [][]api.Item {
	behind := make([][]api.Item, symbols(g))
	for _, item := range closure(g, items...) {
		if sym := ahead(g, item); sym != nothing {
			behind[sym] = append(behind[sym], api.Item{Prod: item.Prod, Dot: item.Dot + 1})
		}
	}
	return behind
}

func areItems(g api.Grammar, items ...api.Item) bool {
	return !slices.ContainsFunc(items, func(item api.Item) bool { return !isItem(g, item) })
}

func isItem(g api.Grammar, item api.Item) bool {
	return item.Prod >= 0 && item.Prod < len(g.Prods) && item.Dot >= 0 && item.Dot <= len(g.Prods[item.Prod].Right)
}

func isSymbol(g api.Grammar, sym int) bool { return sym >= 0 && sym < symbols(g) }

// symbols are how many symbols there are, the end marker too.
func symbols(g api.Grammar) int { return len(g.Terms) + len(g.Nons) }
