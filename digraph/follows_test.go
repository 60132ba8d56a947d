package digraph_test

import (
	"slices"
	"testing"

	"presage/api"
	"presage/digraph"
)

// source gives numbers below n that hang on the seed alone.
func source(seed uint64) func(n int) int {
	state := seed*2 + 1
	return func(n int) int {
		state = state*6364136223846793005 + 1442695040888963407
		return int(state>>33) % n
	}
}

func shuffle[T any](r func(int) int, list []T) {
	for i := range list {
		j := i + r(len(list)-i)
		list[i], list[j] = list[j], list[i]
	}
}

// someLists are so many lists of at most so many numbers below a bound, which may be there more than once.
func someLists(r func(int) int, count, length, bound int) [][]int {
	all := make([][]int, count)
	for i := range all {
		for range r(length + 1) {
			all[i] = append(all[i], r(bound))
		}
	}
	return all
}

// manyRelations are so many relations, of few steps and of many, with the nodes' own numbers, few that are alike often, and many.
func manyRelations(count uint64, each func(r func(int) int, edges, own [][]int)) {
	for seed := range count {
		r := source(seed)
		n := 1 + r(12)
		switch seed % 4 {
		case 1:
			n = 1 + r(40)
		case 2:
			n = 20 + r(100)
		}
		bound := api.MaxBits
		if seed%3 == 0 {
			bound = 1 + r(10)
		}
		each(r, someLists(r, n, 1+r(4), n), someLists(r, n, r(4), bound))
	}
}

// allRelations are all relations of n nodes, each with its number for its own.
func allRelations(n int, each func(edges, own [][]int)) {
	own := make([][]int, n)
	for node := range own {
		own[node] = []int{node}
	}
	for steps := range 1 << (n * n) {
		edges := make([][]int, n)
		for at := range n * n {
			if steps>>at&1 == 1 {
				edges[at/n] = append(edges[at/n], at%n)
			}
		}
		each(edges, own)
	}
}

// waysOf tells of each two nodes whether a way leads from the one to the other: each node that may lie between is tried.
func waysOf(edges [][]int) [][]bool {
	ways := make([][]bool, len(edges))
	for node, list := range edges {
		ways[node] = make([]bool, len(edges))
		ways[node][node] = true
		for _, to := range list {
			ways[node][to] = true
		}
	}
	for between := range edges {
		for from := range edges {
			if !ways[from][between] {
				continue
			}
			for to, leads := range ways[between] {
				ways[from][to] = ways[from][to] || leads
			}
		}
	}
	return ways
}

// saidComponents are P12.1's, by its very words.
func saidComponents(ways [][]bool) [][]int {
	var components [][]int
	for node := range ways {
		var component []int
		for other := range ways {
			if ways[node][other] && ways[other][node] {
				component = append(component, other)
			}
		}
		if component[0] == node {
			components = append(components, component)
		}
	}
	return components
}

// saidSolution is P12.2's, by its very words.
func saidSolution(ways [][]bool, own [][]int) [][]int {
	all := make([][]int, len(ways))
	for node := range ways {
		for other, leads := range ways[node] {
			if leads {
				all[node] = append(all[node], own[other]...)
			}
		}
		slices.Sort(all[node])
		all[node] = slices.Compact(all[node])
	}
	return all
}

func wantAsSaid(t *testing.T, edges, own [][]int) {
	t.Helper()
	ways := waysOf(edges)
	wantComponents(t, edges, toldLists(saidComponents(ways)))
	wantSolution(t, edges, own, toldLists(saidSolution(ways, own)))
}

// P12.1 and P12.2

func TestManyRelations(t *testing.T) {
	joined, several := 0, 0
	manyRelations(4000, func(r func(int) int, edges, own [][]int) {
		wantAsSaid(t, edges, own)
		components, _ := digraph.Components(edges)
		large := 0
		for _, component := range components {
			if len(component) > 1 {
				large++
			}
		}
		if large > 0 {
			joined++
		}
		if large > 1 {
			several++
		}
	})
	if joined < 2000 || several < 400 {
		t.Errorf("%d relations have a component of several nodes, %d have several such ones", joined, several)
	}
}

func TestAllSmallRelations(t *testing.T) {
	for n := range 5 {
		allRelations(n, func(edges, own [][]int) { wantAsSaid(t, edges, own) })
	}
}

// P12.3

// solved are a relation's components and its solution.
func solved(t *testing.T, edges, own [][]int) (components, solution [][]int) {
	t.Helper()
	components, err := digraph.Components(edges)
	if err != api.OK {
		t.Fatalf("Components(%v) answers %d", edges, err)
	}
	solution, err = digraph.Solve(edges, own)
	if err != api.OK {
		t.Fatalf("Solve(%v, %v) answers %d", edges, own, err)
	}
	return components, solution
}

func hasAll(numbers, some []int) bool {
	for _, n := range some {
		if !slices.Contains(numbers, n) {
			return false
		}
	}
	return true
}

func TestAComponentHasTheSame(t *testing.T) {
	manyRelations(2000, func(r func(int) int, edges, own [][]int) {
		components, solution := solved(t, edges, own)
		for _, component := range components {
			for _, node := range component {
				if !slices.Equal(solution[node], solution[component[0]]) {
					t.Errorf("%v: %d has %v, %d has %v", edges, node, solution[node], component[0], solution[component[0]])
				}
			}
		}
	})
}

func TestANodeHasWhatItLeadsTo(t *testing.T) {
	manyRelations(2000, func(r func(int) int, edges, own [][]int) {
		_, solution := solved(t, edges, own)
		for node, list := range edges {
			if !hasAll(solution[node], own[node]) {
				t.Errorf("%v: %d has %v, its own are %v", edges, node, solution[node], own[node])
			}
			for _, to := range list {
				if !hasAll(solution[node], solution[to]) {
					t.Errorf("%v: %d has %v, but %d, to which it leads, %v", edges, node, solution[node], to, solution[to])
				}
			}
		}
	})
}

func TestNumbersMore(t *testing.T) {
	manyRelations(1000, func(r func(int) int, edges, own [][]int) {
		_, before := solved(t, edges, own)
		ways := waysOf(edges)
		at := r(len(edges))
		more := []int{r(api.MaxBits), r(api.MaxBits), r(10)}
		own[at] = append(own[at], more...)
		_, after := solved(t, edges, own)
		for node := range edges {
			want := slices.Clone(before[node])
			if ways[node][at] {
				want = append(want, more...)
				slices.Sort(want)
				want = slices.Compact(want)
			}
			if !slices.Equal(after[node], want) {
				t.Errorf("%v: with %v more of %d, %d has %v; it had %v", edges, more, at, node, after[node], before[node])
			}
		}
	})
}

func TestNodesByOtherNumbers(t *testing.T) {
	manyRelations(1000, func(r func(int) int, edges, own [][]int) {
		components, solution := solved(t, edges, own)
		names := upTo(len(edges))
		shuffle(r, names)
		otherEdges, otherOwn := make([][]int, len(edges)), make([][]int, len(edges))
		for node, list := range edges {
			for _, to := range list {
				otherEdges[names[node]] = append(otherEdges[names[node]], names[to])
			}
			otherOwn[names[node]] = slices.Clone(own[node])
			shuffle(r, otherEdges[names[node]])
			shuffle(r, otherOwn[names[node]])
		}
		otherComponents, otherSolution := solved(t, otherEdges, otherOwn)
		for node := range edges {
			if !slices.Equal(solution[node], otherSolution[names[node]]) {
				t.Errorf("%v: %d has %v, by another number %v", edges, node, solution[node], otherSolution[names[node]])
			}
		}
		for _, component := range components {
			for i, node := range component {
				component[i] = names[node]
			}
			slices.Sort(component)
		}
		slices.SortFunc(components, slices.Compare[[]int])
		if toldLists(components) != toldLists(otherComponents) {
			t.Errorf("%v: the components %s are, by other numbers, %s", edges, toldLists(components), toldLists(otherComponents))
		}
	})
}

// R4

func TestAskedAgain(t *testing.T) {
	manyRelations(300, func(r func(int) int, edges, own [][]int) {
		components, solution := solved(t, edges, own)
		other := someLists(r, 9, 3, 9)
		solved(t, other, other)
		wantComponents(t, edges, toldLists(components))
		wantSolution(t, edges, own, toldLists(solution))
	})
}
