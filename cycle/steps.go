package cycle

import (
	"slices"

	"presage/api"
	"presage/bits"
	"presage/first"
)

// steps are of each nonterminal, from the lowest symbol on, the symbols to which it steps.
type steps struct {
	lowest, symbols int
	to              []*bits.Set
}

// stepsOf are the steps of a closed grammar.
func stepsOf(g api.Grammar) steps {
	s := steps{lowest: len(g.Terms), symbols: len(g.Terms) + len(g.Nons)}
	for range g.Nons {
		s.to = append(s.to, s.set())
	}
	// Of a closed grammar there is no error.
	nullable, _ := first.Nullable(g)
	for _, p := range g.Prods {
		s.from(p.Left).Union(s.alone(nullable, p.Right))
	}
	return s
}

// set is a set of these symbols.
func (s steps) set(members ...int) *bits.Set { return bits.Of(s.symbols, members...) }

// from are the symbols to which a nonterminal steps.
func (s steps) from(non int) *bits.Set { return s.to[non-s.lowest] }

// alone are the nonterminals of a row beside which all else may vanish.
//
// What can't vanish must be that one itself: so where one can't, no other is left, and where two can't, none is. A row may be of any length, so it is gone over once.
func (s steps) alone(nullable []bool, row []int) *bits.Set {
	vanish, stays := s.set(), s.set()
	for _, sym := range row {
		isNon := sym >= s.lowest
		switch {
		case isNon && nullable[sym-s.lowest]:
			vanish.Add(sym)
		case isNon && stays.Count() == 0:
			stays.Add(sym)
		default:
			return s.set()
		}
	}
	if stays.Count() > 0 {
		return stays
	}
	return vanish
}

// onCircles are the nonterminals that come back to themselves.
func (s steps) onCircles() *bits.Set {
	on := s.set()
	for i := range s.to {
		if non := s.lowest + i; s.ahead(non).Has(non) {
			on.Add(non)
		}
	}
	return on
}

// ahead are the nonterminals to which one leads in one step or more: each that is marked hands the mark on.
func (s steps) ahead(non int) *bits.Set {
	marked := s.set()
	var handOn func(non int)
	handOn = func(non int) {
		for to := range s.from(non).All() {
			if marked.Add(to) > 0 {
				handOn(to)
			}
		}
	}
	handOn(non)
	return marked
}

// shortest is, of the circles that begin with this nonterminal, the first one of the shortest.
//
// The ways of a wave are of one length and stand in order, and one that was met is not met again: an earlier way to it was no longer, and lesser. So the first way that may go back is the circle.
func (s steps) shortest(begin int) []int {
	var circle []int
	met := s.set(begin)
	wave := [][]int{{begin}}
search:
	for len(wave) > 0 {
		var next [][]int
		for _, way := range wave {
			last := s.from(way[len(way)-1])
			if last.Has(begin) {
				circle = way
				break search
			}
			for to := range last.All() {
				if met.Add(to) > 0 {
					next = append(next, append(slices.Clone(way), to))
				}
			}
		}
		wave = next
	}
	return circle
}
