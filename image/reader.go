package image

import (
	"strings"

	"presage/api"
)

// reader reads the bytes that are left, and gives up where they end too early. What the numbers mean it leaves to others.
type reader struct{ left string }

// bytes are the next ones, so many.
func (r *reader) bytes(count int) string {
	if count > len(r.left) {
		giveUp()
	}
	taken := r.left[:count]
	r.left = r.left[count:]
	return taken
}

func (r *reader) one() int { return int(r.bytes(1)[0]) }

// text is the next text; it is new memory, so that a system keeps no image.
func (r *reader) text() string { return strings.Clone(r.bytes(r.one())) }

func (r *reader) term() api.Term { return api.Term{Name: r.text(), Level: r.one()} }

// prod is the next production: its left side by the place among the nonterminals.
func (r *reader) prod() api.Prod {
	return api.Prod{Left: r.one(), Level: r.one(), Right: listOf(r, r.one)}
}

// listOf reads how many there are, and each of them, behind those that are in the list already.
func listOf[T any](r *reader, read func() T, list ...T) []T {
	for range r.one() {
		list = append(list, read())
	}
	return list
}

// grammar is the next grammar, with what is added to each: the end marker, the added one, the added production.
func (r *reader) grammar() api.Grammar {
	var g api.Grammar
	g.Terms = listOf(r, r.term, api.Term{})
	g.Nons = listOf(r, r.text, "")
	g.Levels = listOf(r, r.one)
	g.Start = len(g.Terms) + r.one()
	g.Prods = listOf(r, r.prod, api.Prod{Right: []int{g.Start}})
	for i := range g.Prods {
		g.Prods[i].Left += len(g.Terms)
	}
	return g
}
