package reach

import (
	"presage/api"
	"presage/bits"
	"presage/gram"
)

// marks are a set of symbols of a grammar.
type marks struct{ *bits.Set }

func marksOf(g api.Grammar, syms ...int) marks {
	return marks{bits.Of(len(g.Terms)+len(g.Nons), syms...)}
}

// covers tells whether all of these symbols are marked.
func (m marks) covers(syms marks) bool { return m.Copy().Union(syms.Set) == 0 }

// ofNons tells of each nonterminal whether it is marked.
func (m marks) ofNons(g api.Grammar) []bool {
	marked := make([]bool, len(g.Nons))
	for i := range marked {
		marked[i] = m.Has(len(g.Terms) + i)
	}
	return marked
}

// rule is a production, and the symbols of its right side as marks: a right side may be of any length, and is gone over only once for them.
type rule struct {
	api.Prod
	syms marks
}

func rulesOf(g api.Grammar) []rule {
	rules := make([]rule, len(g.Prods))
	for i, p := range g.Prods {
		rules[i] = rule{Prod: p, syms: marksOf(g, p.Right...)}
	}
	return rules
}

// use has the rules of a grammar that may be, and its symbols that are productive and useful. Terminals are marked like nonterminals, since they derive themselves: so a right side is asked as a whole.
type use struct {
	rules              []rule
	productive, useful marks
}

func useOf(g api.Grammar) use {
	u := use{rules: rulesOf(g), productive: marksOf(g), useful: marksOf(g)}
	for term := range g.Terms {
		u.productive.Add(term)
	}
	u.again(func(r rule) int {
		if !u.productive.covers(r.syms) {
			return 0
		}
		return u.productive.Add(r.Left)
	})
	if u.productive.Has(g.Start) {
		u.useful.Add(root(g))
	}
	u.again(func(r rule) int {
		if !u.stays(r) {
			return 0
		}
		return u.useful.Union(r.syms.Set)
	})
	return u
}

// stays tells whether a rule stands in the derivation of a row of terminals out of the start symbol, as far as useful is known.
func (u use) stays(r rule) bool { return u.useful.Has(r.Left) && u.productive.covers(r.syms) }

// again takes a step with each rule, round by round, until a whole round has added nothing.
func (u use) again(step func(r rule) int) {
	for added := 1; added > 0; {
		added = 0
		for _, r := range u.rules {
			added += step(r)
		}
	}
}

// root is where what is useful begins: the added one, if there is one, since its production leads to the start symbol.
func root(g api.Grammar) int {
	if gram.Closed(g) {
		return len(g.Terms)
	}
	return g.Start
}
