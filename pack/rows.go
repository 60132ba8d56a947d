package pack

import (
	"cmp"
	"slices"

	"presage/api"
)

// nobody is whose places are free.
const nobody = -1

// areRows tells whether lists of edges are rows, and no more than may be.
func areRows(lists ...[]api.Edge) bool {
	if len(lists) > api.MaxStates {
		return false
	}
	for _, list := range lists {
		if !isRow(list...) {
			return false
		}
	}
	return true
}

func isRow(edges ...api.Edge) bool {
	var taken [api.MaxStates]bool
	for _, edge := range edges {
		if edge.Sym < 0 || edge.Sym >= len(taken) || taken[edge.Sym] {
			return false
		}
		taken[edge.Sym] = true
	}
	return true
}

// laid are rows laid over one another. Those with more edges go first: the others then fill their holes.
func laid(rows ...[]api.Edge) api.Rows {
	r := api.Rows{Bases: make([]int, len(rows))}
	for _, number := range byEdges(rows...) {
		lay(&r, number, rows[number]...)
	}
	return r
}

// byEdges are the numbers of rows, those with more edges first.
func byEdges(rows ...[]api.Edge) []int {
	numbers := make([]int, len(rows))
	for number := range rows {
		numbers[number] = number
	}
	slices.SortStableFunc(numbers, func(a, b int) int { return cmp.Compare(len(rows[b]), len(rows[a])) })
	return numbers
}

// lay lays a row at the least base at which all its places are free: 0, if it has no edges.
func lay(r *api.Rows, number int, edges ...api.Edge) {
	base := 0
	for !isFree(*r, base, edges...) {
		base++
	}
	r.Bases[number] = base
	for _, edge := range edges {
		at := base + edge.Sym
		for len(r.Owners) <= at {
			r.Values, r.Owners = append(r.Values, 0), append(r.Owners, nobody)
		}
		r.Values[at], r.Owners[at] = edge.To, number
	}
}

func isFree(r api.Rows, base int, edges ...api.Edge) bool {
	for _, edge := range edges {
		if at := base + edge.Sym; at < len(r.Owners) && r.Owners[at] != nobody {
			return false
		}
	}
	return true
}
