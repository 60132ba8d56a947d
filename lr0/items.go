package lr0

import (
	"cmp"
	"slices"

	"presage/api"
)

// nothing is what the Dot of a completed item stands ahead of.
const nothing = -1

// ahead is the symbol that an item's Dot stands ahead of.
func ahead(g api.Grammar, item api.Item) int {
	right := g.Prods[item.Prod].Right
	if item.Dot == len(right) {
		return nothing
	}
	return right[item.Dot]
}

// inOrder compares items by Prod, then by Dot.
func inOrder(a, b api.Item) int {
	return cmp.Or(cmp.Compare(a.Prod, b.Prod), cmp.Compare(a.Dot, b.Dot))
}

// closure are items and all that they bring along, in order, each once.
//
// A nonterminal brings its productions once, however many items stand ahead of it. Items that were given twice, or given and brought as well, are told apart only at the end, when they stand side by side.
func closure(g api.Grammar, items ...api.Item) []api.Item {
	all := append([]api.Item(nil), items...)
	brought := make([]bool, symbols(g))
	for i := 0; i < len(all); i++ {
		sym := ahead(g, all[i])
		if sym < len(g.Terms) || brought[sym] {
			continue
		}
		brought[sym] = true
		all = append(all, begun(g, sym)...)
	}
	slices.SortFunc(all, inOrder)
	return slices.Compact(all)
}

// begun are all productions of a nonterminal with Dot 0.
func begun(g api.Grammar, non int) []api.Item {
	var items []api.Item
	for i, p := range g.Prods {
		if p.Left == non {
			items = append(items, api.Item{Prod: i})
		}
	}
	return items
}

// kernels are, by symbol, the kernels behind these items; of most symbols none.
//
// The closure is gone over once for all symbols. It stands in order, and a Dot one more for all of them leaves it so.
func kernels(g api.Grammar, items ...api.Item) [][]api.Item {
	behind := make([][]api.Item, symbols(g))
	for _, item := range closure(g, items...) {
		if sym := ahead(g, item); sym != nothing {
			behind[sym] = append(behind[sym], api.Item{Prod: item.Prod, Dot: item.Dot + 1})
		}
	}
	return behind
}

func areItems(g api.Grammar, items ...api.Item) bool {
	return !slices.ContainsFunc(items, func(item api.Item) bool { return !isItem(g, item) })
}

func isItem(g api.Grammar, item api.Item) bool {
	return item.Prod >= 0 && item.Prod < len(g.Prods) && item.Dot >= 0 && item.Dot <= len(g.Prods[item.Prod].Right)
}

func isSymbol(g api.Grammar, sym int) bool { return sym >= 0 && sym < symbols(g) }

// symbols are how many symbols there are, the end marker too.
func symbols(g api.Grammar) int { return len(g.Terms) + len(g.Nons) }
