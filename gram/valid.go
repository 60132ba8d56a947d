package gram

import (
	"slices"

	"presage/api"
)

// Valid tells whether a grammar may be; Closed whether it is one with the added production.
func Valid(g api.Grammar) bool  { return holds(g, 0) && inOrder(g) }
func Closed(g api.Grammar) bool { return hasAdded(g) && holds(g, 1) }

// Same tells whether two are the same, field by field; Copy is one in new memory.
func Same(a, b api.Grammar) bool {
	return slices.Equal(a.Terms, b.Terms) && slices.Equal(a.Nons, b.Nons) && slices.Equal(a.Levels, b.Levels) &&
		a.Start == b.Start && slices.EqualFunc(a.Prods, b.Prods, sameProd)
}
func Copy(g api.Grammar) api.Grammar {
	return api.Grammar{
		Terms:  copied(g.Terms),
		Nons:   copied(g.Nons),
		Levels: copied(g.Levels),
		Start:  g.Start,
		Prods:  copiedProds(g.Prods),
	}
}

func sameProd(a, b api.Prod) bool {
	return a.Left == b.Left && slices.Equal(a.Right, b.Right) && a.Level == b.Level
}

// copied is a list in new memory. (slices.Clone of a list without elements keeps pointing at the old one.)
func copied[T any](list []T) []T { return append([]T(nil), list...) }

func copiedProds(prods []api.Prod) []api.Prod {
	prods = copied(prods)
	for i := range prods {
		prods[i].Right = copied(prods[i].Right)
	}
	return prods
}

// holds tells all that a plain and a closed grammar must have in common. Of the nonterminals and of the productions the first so many, 0 or 1, are the added ones: hasAdded has looked at those.
func holds(g api.Grammar, added int) bool {
	nons, prods := g.Nons[added:], g.Prods[added:]
	// The limits come first, so that the rest never looks through more than they allow.
	if len(g.Terms)-1+len(nons) > api.MaxSyms || len(prods) > api.MaxProds {
		return false
	}
	// That there is a production follows: Start is a nonterminal, and that has one.
	return termsHold(g) && nonsHold(nons) && levelsHold(g) && prodsHold(g, prods, added) &&
		len(lefts(prods)) == len(nons) && isNonOf(g, g.Start, added)
}

// hasAdded tells whether the first nonterminal and production 0 are the added ones.
func hasAdded(g api.Grammar) bool {
	return len(g.Nons) > 0 && g.Nons[0] == "" && len(g.Prods) > 0 &&
		sameProd(g.Prods[0], api.Prod{Left: len(g.Terms), Right: []int{g.Start}})
}

// inOrder tells whether the nonterminals stand as their first productions do, of a grammar that holds.
func inOrder(g api.Grammar) bool { return slices.IsSorted(lefts(g.Prods)) }

func termsHold(g api.Grammar) bool {
	if len(g.Terms) == 0 || g.Terms[0] != (api.Term{}) {
		return false
	}
	texts := make([]string, 0, len(g.Terms)-1)
	for _, t := range g.Terms[1:] {
		if !isText(t.Name) || !isLevel(g, t.Level) {
			return false
		}
		texts = append(texts, t.Name)
	}
	return noTwoAlike(texts)
}

func nonsHold(nons []string) bool {
	for _, name := range nons {
		if !isName(name) {
			return false
		}
	}
	return noTwoAlike(nons)
}

func noTwoAlike(names []string) bool {
	lastPlaces := map[string]int{}
	for i, name := range names {
		lastPlaces[name] = i
	}
	return len(lastPlaces) == len(names)
}

func levelsHold(g api.Grammar) bool {
	for i, side := range g.Levels {
		hasLevel := func(t api.Term) bool { return t.Level == i+1 }
		if !isSide(side) || !slices.ContainsFunc(g.Terms, hasLevel) {
			return false
		}
	}
	return true
}

func prodsHold(g api.Grammar, prods []api.Prod, added int) bool {
	for _, p := range prods {
		if !isNonOf(g, p.Left, added) || !isLevel(g, p.Level) {
			return false
		}
		for _, sym := range p.Right {
			if !isTermOf(g, sym) && !isNonOf(g, sym, added) {
				return false
			}
		}
	}
	return true
}

// lefts are the symbols that are a Left, in the order in which they first are.
func lefts(prods []api.Prod) []int {
	var syms []int
	for _, p := range prods {
		if !slices.Contains(syms, p.Left) {
			syms = append(syms, p.Left)
		}
	}
	return syms
}

// isTermOf tells whether sym is a terminal other than the end marker.
func isTermOf(g api.Grammar, sym int) bool { return sym > 0 && sym < len(g.Terms) }

// isNonOf tells whether sym is a nonterminal other than the added ones.
func isNonOf(g api.Grammar, sym, added int) bool {
	return sym >= len(g.Terms)+added && sym < len(g.Terms)+len(g.Nons)
}

func isLevel(g api.Grammar, level int) bool { return level >= 0 && level <= len(g.Levels) }
