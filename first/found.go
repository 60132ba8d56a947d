package first

import (
	"presage/api"
	"presage/bits"
)

// found is what has been found of the symbols of a grammar. Terminals are there like nonterminals, since they derive themselves: so a row is asked symbol by symbol.
type found struct {
	terms  int
	vanish *bits.Set   // the symbols that derive the empty row
	begins []*bits.Set // by symbol: the terminals that rows derived from it begin with
}

// foundOf is all that is to be found in a grammar that may be.
func foundOf(g api.Grammar) found {
	f := nothingFound(g)
	rights := make([][]int, len(g.Prods))
	for i := range len(g.Prods) {
		rights[i] = unlike(g, g.Prods[i].Right...)
	}
	for more := 1; more > 0; {
		more = 0
		for i := range len(g.Prods) {
			more += f.add(g.Prods[i].Left, rights[i]...)
		}
	}
	return f
}

// nothingFound knows of the terminals alone.
func nothingFound(g api.Grammar) found {
	f := found{terms: len(g.Terms), vanish: bits.Of(symbols(g)), begins: make([]*bits.Set, symbols(g))}
	for sym := range symbols(g) {
		// A nonterminal is not below the size, so its set is empty.
		f.begins[sym] = bits.Of(f.terms, sym)
	}
	return f
}

// add lets a nonterminal have what a row that it steps to has, and tells how much of that is new.
func (f found) add(left int, right ...int) int {
	begins, vanishes := f.ofRow(right...)
	more := f.begins[left].Union(begins)
	if vanishes {
		more += f.vanish.Add(left)
	}
	return more
}

// ofRow are the terminals that rows derived from a row begin with, and whether it derives the empty one, as far as that is found.
func (f found) ofRow(syms ...int) (begins *bits.Set, vanishes bool) {
	begins = bits.Of(f.terms)
	for _, sym := range syms {
		begins.Union(f.begins[sym])
		if !f.vanish.Has(sym) {
			return begins, false
		}
	}
	return begins, true
}

// unlike are the symbols of a row, each where it stands first. What stands behind a symbol is looked at only if that vanishes, and then a second one of it adds nothing: so a row of any length need be gone over only once.
func unlike(g api.Grammar, row ...int) []int {
	seen := bits.Of(symbols(g))
	var syms []int
	for _, sym := range row {
		if seen.Add(sym) > 0 {
			syms = append(syms, sym)
		}
	}
	return syms
}
