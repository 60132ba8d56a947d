package digraph_test

import (
	"math"
	"slices"
	"strconv"
	"strings"
	"testing"

	"presage/api"
	"presage/digraph"
)

// told are numbers as a text, with blanks between them.
func told(numbers []int) string {
	var words []string
	for _, n := range numbers {
		words = append(words, strconv.Itoa(n))
	}
	return strings.Join(words, " ")
}

// toldLists are lists of numbers as a text, a / between two of them.
func toldLists(lists [][]int) string {
	var words []string
	for _, list := range lists {
		words = append(words, told(list))
	}
	return strings.Join(words, "/")
}

// lists are those of a text: a / between two of them.
func lists(t *testing.T, text string) [][]int {
	t.Helper()
	var all [][]int
	for _, words := range strings.Split(text, "/") {
		var numbers []int
		for _, word := range strings.Fields(words) {
			n, err := strconv.Atoi(word)
			if err != nil {
				t.Fatal(err)
			}
			numbers = append(numbers, n)
		}
		all = append(all, numbers)
	}
	return all
}

func wantComponents(t *testing.T, edges [][]int, want string) {
	t.Helper()
	got, err := digraph.Components(edges)
	if err != api.OK || toldLists(got) != want {
		t.Errorf("Components(%v) = %s, %d; want %s", edges, toldLists(got), err, want)
	}
}

func wantSolution(t *testing.T, edges, own [][]int, want string) {
	t.Helper()
	got, err := digraph.Solve(edges, own)
	if err != api.OK || len(got) != len(edges) || toldLists(got) != want {
		t.Errorf("Solve(%v, %v) = %s, %d; want %s", edges, own, toldLists(got), err, want)
	}
}

// wantNoRelation wants ErrArg of edges, whatever the nodes' own numbers are.
func wantNoRelation(t *testing.T, edges [][]int) {
	t.Helper()
	if got, err := digraph.Components(edges); err != api.ErrArg || len(got) != 0 {
		t.Errorf("Components(%v) = %v, %d; want ErrArg", edges, got, err)
	}
	for _, own := range [][][]int{make([][]int, len(edges)), nil, make([][]int, len(edges)+1)} {
		wantNoSolution(t, edges, own)
	}
}

func wantNoSolution(t *testing.T, edges, own [][]int) {
	t.Helper()
	if got, err := digraph.Solve(edges, own); err != api.ErrArg || len(got) != 0 {
		t.Errorf("Solve(%v, %v) = %v, %d; want ErrArg", edges, own, got, err)
	}
}

// The chapter's examples.

func TestExamples(t *testing.T) {
	own := lists(t, "5/6 7//8")
	edges := lists(t, "1/2/1/")
	wantComponents(t, edges, "0/1 2/3")
	wantSolution(t, edges, own, "5 6 7/6 7/6 7/8")
	edges = lists(t, "0 3 3//0/2")
	wantComponents(t, edges, "0 2 3/1")
	wantSolution(t, edges, own, "5 8/6 7/5 8/5 8")
	wantNoRelation(t, [][]int{{4}})
	wantNoSolution(t, [][]int{{4}}, own)
	for _, none := range [][][]int{nil, {}} {
		wantComponents(t, none, "")
		wantSolution(t, none, nil, "")
		wantSolution(t, none, [][]int{}, "")
	}
}

// P12.1

func TestComponents(t *testing.T) {
	for _, c := range []struct{ edges, want string }{
		{"", "0"},
		{"0", "0"},
		{"0 0 0", "0"},
		{"/", "0/1"},
		{"1/", "0/1"},
		{"/0", "0/1"},
		{"1/0", "0 1"},
		{"1 1 0/1 0 0", "0 1"},
		// a ring, either way round
		{"1/2/3/0", "0 1 2 3"},
		{"3/0/1/2", "0 1 2 3"},
		// two that interleave: the order is that of the least nodes, not that in which they are done
		{"2/3/0/1", "0 2/1 3"},
		{"2 1/3/0/1", "0 2/1 3"},
		{"2/3 0/0/1", "0 2/1 3"},
		{"5/4/3/2/1/0", "0 5/1 4/2 3"},
		// a component whose least node is met last
		{"/3/1/2", "0/1 2 3"},
		{"3/0/1/2 4/", "0 1 2 3/4"},
		// a way back over a node that is open, not on the way
		{"1 2/3/3/0", "0 1 2 3"},
		{"1/2 3/1/1", "0/1 2 3"},
		{"1/2 3/0/2", "0 1 2 3"},
		{"1/2/1 3/4/3", "0/1 2/3 4"},
		// a step to what is done already joins nothing
		{"1/2//1 2", "0/1/2/3"},
		{"1 3/2//2 1", "0/1/2/3"},
		{"1 3/2//0 2", "0 3/1/2"},
	} {
		wantComponents(t, lists(t, c.edges), c.want)
	}
}

// P12.1 and P12.2

func TestNoRelation(t *testing.T) {
	for _, wrong := range []int{math.MinInt, -2, -1, 3, 4, math.MaxInt, math.MaxInt32 + 1, 1 << 32} {
		for at := range 3 {
			edges := [][]int{{1, 2}, {2, 0}, {0, 1}}
			edges[at] = append(edges[at], wrong)
			wantNoRelation(t, edges)
			edges[at] = []int{wrong, 0}
			wantNoRelation(t, edges)
		}
	}
	wantNoRelation(t, [][]int{{1}})
	wantNoRelation(t, [][]int{{-1}})
	wantNoRelation(t, [][]int{nil, {2}})
}

func TestNodesAtTheirBounds(t *testing.T) {
	wantComponents(t, [][]int{{0, 2}, nil, {2, 0}}, "0 2/1")
	wantSolution(t, [][]int{{0, 2}, nil, {2, 0}}, [][]int{{1}, {2}, {3}}, "1 3/2/1 3")
}

// P12.2

func TestSolve(t *testing.T) {
	for _, c := range []struct{ edges, own, want string }{
		{"", "", ""},
		{"", "3 1 2 1 3", "1 2 3"},
		{"0", "3 1 2 1 3", "1 2 3"},
		{"/", "7/7", "7/7"},
		{"1/", "/4", "4/4"},
		{"1/", "4/", "4/"},
		{"/0", "4/", "4/4"},
		{"1/0", "2/1", "1 2/1 2"},
		// what comes by several ways is there once
		{"1 2/3/3/", "5/6/6/5", "5 6/5 6/5 6/5"},
		// a node that was done long ago hands on still
		{"1/2//1/2/0", "10/11/12/13/14/15", "10 11 12/11 12/12/11 12 13/12 14/10 11 12 15"},
		// all of a component has what each of it leads to
		{"1/2/0 3/4/", "1/2/3/4/5", "1 2 3 4 5/1 2 3 4 5/1 2 3 4 5/4 5/5"},
		{"1 3/0 4/5///", "1/2/3/4/5/6", "1 2 4 5/1 2 4 5/3 6/4/5/6"},
		// two components side by side hand nothing to each other
		{"2/3/0/1", "1/2/3/4", "1 3/2 4/1 3/2 4"},
		// from one component on several lead to another one
		{"1 2 3/0 2 3/3/2", "1/2/3/4", "1 2 3 4/1 2 3 4/3 4/3 4"},
		// by turns to one and to another
		{"1 2 1 2/3 3///1 0 1 0", "1/2/3/4/5", "1 2 3 4/2 4/3/4/1 2 3 4 5"},
	} {
		edges := lists(t, c.edges)
		own := lists(t, c.own)
		wantSolution(t, edges, own, c.want)
	}
}

func upTo(n int) []int {
	var numbers []int
	for i := range n {
		numbers = append(numbers, i)
	}
	return numbers
}

func TestNumbersAtTheirBounds(t *testing.T) {
	edges := lists(t, "1/0/")
	wantSolution(t, edges, [][]int{{api.MaxBits - 1}, {0}, nil}, "0 1023/0 1023/")
	wantSolution(t, edges, [][]int{{64, 63}, {127, 128}, {1022}}, "63 64 127 128/63 64 127 128/1022")
	all := upTo(api.MaxBits)
	turned := slices.Clone(all)
	slices.Reverse(turned)
	wantSolution(t, edges, [][]int{turned[:512], turned[512:], turned}, told(all)+"/"+told(all)+"/"+told(all))
	for _, wrong := range []int{math.MinInt, -1024, -64, -1, api.MaxBits, api.MaxBits + 1, 1 << 32, math.MaxInt} {
		for at := range edges {
			own := [][]int{{0}, {1}, nil}
			own[at] = append(own[at], wrong)
			wantNoSolution(t, edges, own)
			own[at] = []int{wrong, 3}
			wantNoSolution(t, edges, own)
		}
	}
}

func TestOwnHasAsManyLists(t *testing.T) {
	for n := range 5 {
		edges := make([][]int, n)
		for m := range 7 {
			if own := make([][]int, m); m == n {
				wantSolution(t, edges, own, strings.Repeat("/", max(n-1, 0)))
			} else {
				wantNoSolution(t, edges, own)
			}
		}
	}
	wantNoSolution(t, [][]int{{0}}, [][]int{{1}, {2}})
	wantNoSolution(t, [][]int{{0}, {0}}, [][]int{{1}})
	wantNoSolution(t, nil, [][]int{{1}})
}

// Time that grows no faster than n + m, and no chain that is too long.

const long = 1 << 20

// chain leads from each node to the next one, or from each one to the one before.
func chain(n int, forth bool) [][]int {
	edges := make([][]int, n)
	for i := range n - 1 {
		if forth {
			edges[i] = []int{i + 1}
		} else {
			edges[i+1] = []int{i}
		}
	}
	return edges
}

// wantEach wants of all nodes but some the same numbers, and of those others.
func wantEach(t *testing.T, what string, edges, own [][]int, want string, but map[int]string) {
	t.Helper()
	got, err := digraph.Solve(edges, own)
	if err != api.OK || len(got) != len(edges) {
		t.Fatalf("%s: %d lists, %d", what, len(got), err)
	}
	wrong := 0
	for node, numbers := range got {
		other, ok := but[node]
		if ok && told(numbers) != other || !ok && told(numbers) != want {
			wrong++
		}
	}
	if wrong > 0 {
		t.Errorf("%s: %d nodes have wrong numbers", what, wrong)
	}
}

func TestLongChains(t *testing.T) {
	own := make([][]int, long)
	own[0], own[long-1] = []int{4}, []int{9}
	for _, forth := range []bool{true, false} {
		edges := chain(long, forth)
		got, err := digraph.Components(edges)
		if err != api.OK || len(got) != long || told(got[0]) != "0" || told(got[long-1]) != strconv.Itoa(long-1) {
			t.Errorf("a chain has %d components, %d", len(got), err)
		}
		if forth {
			wantEach(t, "a chain", edges, own, "9", map[int]string{0: "4 9"})
		} else {
			wantEach(t, "a chain back", edges, own, "4", map[int]string{long - 1: "4 9"})
		}
	}
}

func TestLongRings(t *testing.T) {
	own := make([][]int, long)
	own[0], own[long/2] = []int{4}, []int{9}
	for _, forth := range []bool{true, false} {
		edges := chain(long, forth)
		if forth {
			edges[long-1] = []int{0}
		} else {
			edges[0] = []int{long - 1}
		}
		got, err := digraph.Components(edges)
		if err != api.OK || len(got) != 1 || !slices.Equal(got[0], upTo(long)) {
			t.Errorf("a ring has %d components, %d", len(got), err)
		}
		wantEach(t, "a ring", edges, own, "4 9", nil)
	}
}

// A node with many steps is come back to from each of them.
func TestManySteps(t *testing.T) {
	edges := make([][]int, long)
	edges[0] = upTo(long)
	own := make([][]int, long)
	own[0], own[long-1] = []int{4}, []int{9}
	wantEach(t, "a star", edges, own, "", map[int]string{0: "4 9", long - 1: "9"})
	for node := range edges[1:] {
		edges[1+node] = []int{0}
	}
	wantEach(t, "a star there and back", edges, own, "4 9", nil)
	got, err := digraph.Components(edges)
	if err != api.OK || len(got) != 1 || len(got[0]) != long {
		t.Errorf("a star there and back has %d components, %d", len(got), err)
	}
}

// Lists may share memory, so that there are far more steps than numbers.
func TestManyStepsOfSharedMemory(t *testing.T) {
	const n = 1 << 12
	all := upTo(n)
	edges := make([][]int, n)
	own := make([][]int, n)
	own[n-1] = []int{9}
	for node := range edges {
		edges[node] = all
	}
	wantEach(t, "each leads to each", edges, own, "9", nil)
	for node := range edges {
		edges[node] = all[:node]
	}
	wantEach(t, "each leads to those before", edges, own, "", map[int]string{n - 1: "9"})
	for node := range edges {
		edges[node] = all[node+1:]
	}
	wantEach(t, "each leads to those behind", edges, own, "9", nil)
	same := slices.Repeat([]int{n - 1, n - 2}, n/2)
	for node := range edges {
		edges[node] = same
	}
	wantEach(t, "all lead to two, over and over", edges, own, "9", nil)
}

// R3

// roomy are lists with spare room, and marks in it.
func roomy(all [][]int) [][]int {
	rooms := make([][]int, len(all), len(all)+1)
	for i, list := range all {
		rooms[i] = append(slices.Clone(list), 77)[:len(list)]
	}
	rooms[:len(all)+1][len(all)] = []int{77}
	return rooms
}

func isUntouched(all, want [][]int) bool {
	for i, list := range all {
		if list[:len(want[i])+1][len(want[i])] != 77 {
			return false
		}
	}
	return toldLists(all) == toldLists(want) && told(all[:len(all)+1][len(all)]) == "77"
}

// overwrite writes over a list, spare room too.
func overwrite[T any](list []T, by T) {
	for i := range cap(list) {
		list[:cap(list)][i] = by
	}
}

// wantOwnMemory wants that no list shares memory with another one of the same answer, spare room included, nor with what a later call leans on.
func wantOwnMemory(t *testing.T, what string, ask func() [][]int) {
	t.Helper()
	want := ask()
	for at := range want {
		spoiled := ask()
		overwrite(spoiled[at], 5555)
		for i, list := range spoiled {
			if i != at && !slices.Equal(list, want[i]) {
				t.Errorf("%s: the lists %d and %d are one", what, at, i)
			}
			overwrite(list, 5555)
		}
		overwrite(spoiled, nil)
		if again := ask(); toldLists(again) != toldLists(want) {
			t.Errorf("%s is %s, then %s", what, toldLists(want), toldLists(again))
		}
	}
}

func TestMemory(t *testing.T) {
	wantEdges, wantOwn := lists(t, "1 3/2/0//1 5/4/6//5 5 4"), lists(t, "1 2/2/3/7 7/5/9/8///")[:9]
	edges, own := roomy(wantEdges), roomy(wantOwn)
	wantOwnMemory(t, "Components", func() [][]int {
		components, _ := digraph.Components(edges)
		return components
	})
	wantOwnMemory(t, "Solve", func() [][]int {
		solution, _ := digraph.Solve(edges, own)
		return solution
	})
	if !isUntouched(edges, wantEdges) || !isUntouched(own, wantOwn) {
		t.Errorf("what was handed in became %v and %v", edges, own)
	}
	digraph.Solve(edges, append(own[:8:8], []int{-1}))
	digraph.Solve(edges, own[:8])
	digraph.Components(edges[:5])
	if !isUntouched(edges, wantEdges) || !isUntouched(own, wantOwn) {
		t.Errorf("what was handed in and refused became %v and %v", edges, own)
	}
}

// The relation's lists may be those of the nodes' own numbers.
func TestEdgesThatAreOwn(t *testing.T) {
	edges := lists(t, "1 2/0//2")
	wantSolution(t, edges, edges, "0 1 2/0 1 2//2")
}
