package lr0_test

import (
	"slices"
	"strconv"
	"testing"

	"presage/api"
	"presage/first"
	"presage/gram"
	"presage/lr0"
	"presage/reach"
)

// source gives numbers below n that hang on the seed alone.
func source(seed uint64) func(n int) int {
	state := seed*2 + 1
	return func(n int) int {
		state = state*6364136223846793005 + 1442695040888963407
		return int(state>>33) % n
	}
}

// someClosed is a closed grammar of at most so many terminals, nonterminals, and symbols in a row.
func someClosed(r func(int) int, terms, nons, length int) api.Grammar {
	g := api.Grammar{Terms: []api.Term{{}}, Nons: []string{""}}
	for i := range r(terms + 1) {
		g.Levels = append(g.Levels, 1+r(3))
		g.Terms = append(g.Terms, api.Term{Name: "t" + strconv.Itoa(i), Level: i + 1})
	}
	g.Prods = []api.Prod{{Left: len(g.Terms)}}
	for i := range 1 + r(nons) {
		g.Nons = append(g.Nons, "n"+strconv.Itoa(i))
		g.Prods = append(g.Prods, api.Prod{Left: len(g.Terms) + 1 + i})
		for range r(2) {
			g.Prods = append(g.Prods, api.Prod{Left: len(g.Terms) + 1 + r(i+1)})
		}
	}
	for i := range g.Prods {
		g.Prods[i].Right = someRow(r, g, length)
	}
	g.Start = len(g.Terms) + 1 + r(len(g.Nons)-1)
	g.Prods[0].Right = []int{g.Start}
	shuffle(r, g.Prods[1:])
	return g
}

// someRow is a row of at most so many symbols, terminals and nonterminals.
func someRow(r func(int) int, g api.Grammar, length int) []int {
	var row []int
	for range r(length + 1) {
		sym := len(g.Terms) + 1 + r(len(g.Nons)-1)
		if len(g.Terms) > 1 && r(2) == 0 {
			sym = 1 + r(len(g.Terms)-1)
		}
		row = append(row, sym)
	}
	return row
}

func shuffle[T any](r func(int) int, list []T) {
	for i := range list {
		j := i + r(len(list)-i)
		list[i], list[j] = list[j], list[i]
	}
}

// manyGrammars are so many closed grammars of all sizes: of few states, of many, and of too many.
func manyGrammars(t *testing.T, count uint64, each func(r func(int) int, g api.Grammar)) {
	t.Helper()
	for seed := range count {
		r := source(seed)
		var g api.Grammar
		switch seed % 6 {
		case 0:
			g = someClosed(r, 3, 5, 3)
		case 1:
			g = someClosed(r, 1, 3, 5)
		case 2:
			g = someClosed(r, 2, 6, 12)
		case 3:
			g = someClosed(r, 3, 12, 24)
		case 4:
			g = someClosed(r, 12, 48, 4)
		case 5:
			g = someClosed(r, 12, 48, 8)
		}
		if !gram.Closed(g) {
			t.Fatalf("%v is not closed", g)
		}
		each(r, g)
	}
}

// someItems are at most so many items, some of them perhaps more than once.
func someItems(r func(int) int, g api.Grammar, count int) []api.Item {
	var items []api.Item
	for range r(count + 1) {
		prod := r(len(g.Prods))
		items = append(items, api.Item{Prod: prod, Dot: r(len(g.Prods[prod].Right) + 1)})
	}
	return items
}

// allItems are all items of a grammar, in order.
func allItems(g api.Grammar) []api.Item {
	var items []api.Item
	for i, p := range g.Prods {
		for dot := range len(p.Right) + 1 {
			items = append(items, api.Item{Prod: i, Dot: dot})
		}
	}
	return items
}

// isAhead tells whether an item's Dot stands ahead of a symbol.
func isAhead(g api.Grammar, item api.Item, sym int) bool {
	rest := g.Prods[item.Prod].Right[item.Dot:]
	return len(rest) > 0 && rest[0] == sym
}

// said is what the document says of closures, reckoned a second time: by two symbols, whether items ahead of the first one bring along the productions of the second.
type said struct {
	grammar api.Grammar
	all     []api.Item
	brings  [][]bool
}

func saidOf(g api.Grammar) said {
	symbols := len(g.Terms) + len(g.Nons)
	s := said{grammar: g, all: allItems(g), brings: make([][]bool, symbols)}
	for sym := range s.brings {
		s.brings[sym] = make([]bool, symbols)
		s.brings[sym][sym] = true
	}
	for _, p := range g.Prods {
		if len(p.Right) > 0 {
			s.brings[p.Left][p.Right[0]] = true
		}
	}
	for by := range symbols {
		for from := range symbols {
			for to := range symbols {
				s.brings[from][to] = s.brings[from][to] || s.brings[from][by] && s.brings[by][to]
			}
		}
	}
	return s
}

// closure are, of all items, those that are given, and those with Dot 0 that one of these brings along.
func (s said) closure(items []api.Item) []api.Item {
	brought := make([]bool, len(s.brings))
	for _, item := range items {
		if right := s.grammar.Prods[item.Prod].Right; item.Dot < len(right) {
			for sym, is := range s.brings[right[item.Dot]] {
				brought[sym] = brought[sym] || is
			}
		}
	}
	var closure []api.Item
	for _, item := range s.all {
		if item.Dot == 0 && brought[s.grammar.Prods[item.Prod].Left] || slices.Contains(items, item) {
			closure = append(closure, item)
		}
	}
	return closure
}

// kernel are, of a closure, those ahead of a symbol, gone on.
func (s said) kernel(sym int, closure []api.Item) []api.Item {
	var kernel []api.Item
	for _, item := range closure {
		if isAhead(s.grammar, item, sym) {
			kernel = append(kernel, api.Item{Prod: item.Prod, Dot: item.Dot + 1})
		}
	}
	return kernel
}

// states are found as the document tells it; false: there are more than may be.
func (s said) states() (states []api.State, ok bool) {
	states = []api.State{{Kernel: []api.Item{{}}}}
	numbers := map[string]int{told(states[0].Kernel): 0}
	for from := 0; from < len(states); from++ {
		closure := s.closure(states[from].Kernel)
		for sym := range s.brings {
			kernel := s.kernel(sym, closure)
			if len(kernel) == 0 {
				continue
			}
			to, there := numbers[told(kernel)]
			if !there {
				to = len(states)
				numbers[told(kernel)] = to
				states = append(states, api.State{Kernel: kernel})
			}
			if len(states) > api.MaxStates {
				return nil, false
			}
			states[from].Edges = append(states[from].Edges, api.Edge{Sym: sym, To: to})
		}
	}
	return states, true
}

// closureOf and kernelOf are what the calls tell, if they have no error.
func closureOf(t *testing.T, g api.Grammar, items ...api.Item) []api.Item {
	t.Helper()
	closure, err := lr0.Closure(g, items...)
	if err != api.OK {
		t.Errorf("Closure(%v, %s) answers %d", g, told(items), err)
	}
	return closure
}

func kernelOf(t *testing.T, g api.Grammar, sym int, items ...api.Item) []api.Item {
	t.Helper()
	kernel, err := lr0.Goto(g, sym, items...)
	if err != api.OK {
		t.Errorf("Goto(%v, %d, %s) answers %d", g, sym, told(items), err)
	}
	return kernel
}

// P9.1, P9.2

func TestManyClosuresAndKernels(t *testing.T) {
	grown, twice, wide := 0, 0, 0
	manyGrammars(t, 2000, func(r func(int) int, g api.Grammar) {
		s := saidOf(g)
		items := someItems(r, g, 5)
		want := s.closure(items)
		if got := closureOf(t, g, items...); !slices.Equal(got, want) {
			t.Errorf("Closure(%v, %s) is %s; want %s", g, told(items), told(got), told(want))
		}
		if len(want) > len(items) {
			grown++
		}
		if len(want) < len(items) {
			twice++
		}
		for sym := range len(g.Terms) + len(g.Nons) {
			want := s.kernel(sym, s.closure(items))
			if got := kernelOf(t, g, sym, items...); !slices.Equal(got, want) {
				t.Errorf("Goto(%v, %d, %s) is %s; want %s", g, sym, told(items), told(got), told(want))
			}
			if len(want) > 1 {
				wide++
			}
		}
	})
	if grown < 500 || twice < 50 || wide < 500 {
		t.Errorf("%d closures are greater than what was given, %d lesser, %d kernels have two items or more", grown, twice, wide)
	}
}

func TestAllItemsAtOnce(t *testing.T) {
	manyGrammars(t, 400, func(r func(int) int, g api.Grammar) {
		all := allItems(g)
		shuffled := slices.Clone(all)
		shuffle(r, shuffled)
		if got := closureOf(t, g, shuffled...); !slices.Equal(got, all) {
			t.Errorf("Closure(%v) of all items is %s", g, told(got))
		}
		kernels := 0
		for sym := range len(g.Terms) + len(g.Nons) {
			kernels += len(kernelOf(t, g, sym, shuffled...))
		}
		if kernels != len(all)-len(g.Prods) {
			t.Errorf("the kernels of %v behind all symbols have %d items, not all %d that are begun", g, kernels, len(all)-len(g.Prods))
		}
	})
}

// P9.3

func wantAsSaid(t *testing.T, g api.Grammar) (states int) {
	t.Helper()
	want, ok := saidOf(g).states()
	a, err := lr0.Build(g)
	switch {
	case !ok && (err != api.ErrTooBig || len(a.States) != 0 || a.Asked != 0 || a.Interned != 0):
		t.Errorf("Build(%v) is %d states, %d; want ErrTooBig alone", g, len(a.States), err)
	case ok && (err != api.OK || toldStates(a.States) != toldStates(want)):
		t.Errorf("Build(%v) is %s, %d; want %s", g, toldStates(a.States), err, toldStates(want))
	case ok && (a.Interned != len(want) || a.Asked != 1+edgesOf(a)):
		t.Errorf("Build(%v) has interned %d of %d states, and asked %d times", g, a.Interned, len(want), a.Asked)
	}
	return len(want)
}

func TestManyAutomata(t *testing.T) {
	few, many, most, tooMany := 0, 0, 0, 0
	manyGrammars(t, 3000, func(r func(int) int, g api.Grammar) {
		switch states := wantAsSaid(t, g); {
		case states == 0:
			tooMany++
		case states <= 20:
			few++
		case states <= 150:
			many++
		default:
			most++
		}
	})
	if few < 1000 || many < 600 || most < 100 || tooMany < 50 {
		t.Errorf("%d grammars have at most 20 states, %d at most 150, %d more, %d too many", few, many, most, tooMany)
	}
}

// smallGrammars are all closed grammars of one terminal, with productions of these nonterminals (by their numbers among these) and at most two symbols, that start with the first one.
func smallGrammars(each func(g api.Grammar), lefts ...int) {
	g := api.Grammar{Terms: []api.Term{{}, {Name: "x"}}, Nons: []string{""}, Start: 3, Prods: make([]api.Prod, 1+len(lefts))}
	g.Prods[0] = api.Prod{Left: 2, Right: []int{3}}
	for i := range slices.Max(lefts) + 1 {
		g.Nons = append(g.Nons, "n"+strconv.Itoa(i))
	}
	rows := rowsOf(2+len(g.Nons), 2)
	var fill func(i int)
	fill = func(i int) {
		if i == len(lefts) {
			each(g)
			return
		}
		for _, row := range rows {
			g.Prods[1+i] = api.Prod{Left: 3 + lefts[i], Right: row}
			fill(i + 1)
		}
	}
	fill(0)
}

// rowsOf are the rows of at most two symbols below n, the end marker and the added one not.
func rowsOf(n, added int) [][]int {
	rows := [][]int{nil}
	for a := 1; a < n; a++ {
		if a == added {
			continue
		}
		rows = append(rows, []int{a})
		for b := 1; b < n; b++ {
			if b != added {
				rows = append(rows, []int{a, b})
			}
		}
	}
	return rows
}

func TestSmallGrammars(t *testing.T) {
	count := 0
	for _, lefts := range [][]int{{0}, {0, 0}, {0, 0, 0}, {0, 1}, {1, 0}, {0, 0, 1}, {0, 1, 0}, {1, 0, 0}, {0, 1, 1}, {1, 0, 1}, {1, 1, 0}} {
		smallGrammars(func(g api.Grammar) {
			for i := range g.Nons[1:] {
				g.Start = 3 + i
				g.Prods[0].Right = []int{g.Start}
				count++
				wantAsSaid(t, g)
			}
		}, lefts...)
	}
	if count != 7+49+343+2*(2*169+6*2197) {
		t.Errorf("%d small grammars", count)
	}
}

// validItems are the items that are valid behind a row, said without any set of items that is gone on from: A -> u . v is valid behind w u, if A is called behind w; the added one is called behind nothing, and with A -> u . B v that is valid, B is called there.
func validItems(g api.Grammar, row []int) []api.Item {
	called := make([][]bool, len(row)+1)
	for length := range called {
		called[length] = make([]bool, len(g.Terms)+len(g.Nons))
		if length == 0 {
			called[0][len(g.Terms)] = true
		}
		for range g.Nons {
			for _, item := range validBehind(g, row[:length], called) {
				for _, p := range g.Prods {
					if isAhead(g, item, p.Left) {
						called[length][p.Left] = true
					}
				}
			}
		}
	}
	return validBehind(g, row, called)
}

// validBehind are the valid items behind a row, as far as it is known what is called behind its beginnings.
func validBehind(g api.Grammar, row []int, called [][]bool) []api.Item {
	var items []api.Item
	for _, item := range allItems(g) {
		p := g.Prods[item.Prod]
		begin := len(row) - item.Dot
		if begin >= 0 && slices.Equal(p.Right[:item.Dot], row[begin:]) && called[begin][p.Left] {
			items = append(items, item)
		}
	}
	return items
}

// The closure of the state to which a row leads are the items that are valid behind it; a row leads nowhere just if none are.
func TestRowsLeadToWhatIsValid(t *testing.T) {
	leading, lost := 0, 0
	manyGrammars(t, 400, func(r func(int) int, g api.Grammar) {
		a, err := lr0.Build(g)
		if err != api.OK {
			return
		}
		left := 20
		var goOn func(state int, row []int)
		goOn = func(state int, row []int) {
			leading++
			left--
			valid := validItems(g, row)
			if got := closureOf(t, g, a.States[state].Kernel...); !slices.Equal(got, valid) {
				t.Errorf("%v: the row %v leads to %s; valid is %s", g, row, told(got), told(valid))
			}
			for sym := range len(g.Terms) + len(g.Nons) {
				edge := slices.IndexFunc(a.States[state].Edges, func(edge api.Edge) bool { return edge.Sym == sym })
				next := append(slices.Clone(row), sym)
				switch {
				case edge < 0 && r(16) == 0:
					lost++
					if valid := validItems(g, next); len(valid) > 0 {
						t.Errorf("%v: the row %v leads nowhere; valid is %s", g, next, told(valid))
					}
				case edge >= 0 && r(1+len(a.States[state].Edges)) < 2 && len(row) < 8 && left > 0:
					goOn(a.States[state].Edges[edge].To, next)
				}
			}
		}
		goOn(0, nil)
	})
	if leading < 2000 || lost < 2000 {
		t.Errorf("%d rows lead to a state, %d nowhere", leading, lost)
	}
}

// P9.4

func isInOrder(items []api.Item) bool {
	return slices.IsSortedFunc(items, func(a, b api.Item) int {
		if a == b || a.Prod > b.Prod || a.Prod == b.Prod && a.Dot > b.Dot {
			return 1
		}
		return -1
	})
}

// wantEdges wants that the edges of each state rise, lead to states, are of symbols that may be, and are just the kernels behind it.
func wantEdges(t *testing.T, g api.Grammar, a api.Automaton) {
	t.Helper()
	for i, state := range a.States {
		at := 0
		for sym := range len(g.Terms) + len(g.Nons) {
			kernel := kernelOf(t, g, sym, state.Kernel...)
			if len(kernel) == 0 {
				continue
			}
			if at == len(state.Edges) || state.Edges[at].Sym != sym || !slices.Equal(a.States[state.Edges[at].To].Kernel, kernel) {
				t.Fatalf("Build(%v): state %d of %s, behind symbol %d there is %s", g, i, toldStates(a.States), sym, told(kernel))
			}
			at++
			if sym == 0 || sym == len(g.Terms) {
				t.Errorf("Build(%v): state %d has an edge of symbol %d", g, i, sym)
			}
		}
		if at != len(state.Edges) {
			t.Errorf("Build(%v): state %d has %d edges, not %d", g, i, len(state.Edges), at)
		}
	}
}

// wantReached wants that all states but 0 are reached, all edges to one by one symbol, and that its kernel stands right behind that.
func wantReached(t *testing.T, g api.Grammar, a api.Automaton) {
	t.Helper()
	by := slices.Repeat([]int{-1}, len(a.States))
	for i, state := range a.States {
		for _, edge := range state.Edges {
			if edge.To == 0 || by[edge.To] >= 0 && by[edge.To] != edge.Sym {
				t.Errorf("Build(%v): an edge of state %d by %d leads to %d, another one by %d", g, i, edge.Sym, edge.To, by[edge.To])
			}
			by[edge.To] = edge.Sym
		}
	}
	for i, state := range a.States[1:] {
		if by[1+i] < 0 || len(state.Kernel) == 0 || !isInOrder(state.Kernel) {
			t.Errorf("Build(%v): state %d is %s, reached by %d", g, 1+i, told(state.Kernel), by[1+i])
		}
		for _, item := range state.Kernel {
			if item.Dot < 1 || g.Prods[item.Prod].Right[item.Dot-1] != by[1+i] {
				t.Errorf("Build(%v): state %d has %s, but is reached by %d", g, 1+i, told(state.Kernel), by[1+i])
			}
		}
	}
}

// wantUnlike wants that no two states have the same kernel, and that so many were interned.
func wantUnlike(t *testing.T, g api.Grammar, a api.Automaton) {
	t.Helper()
	numbers := map[string]int{}
	for i, state := range a.States {
		numbers[told(state.Kernel)] = i
	}
	if len(numbers) != len(a.States) || a.Interned != len(a.States) || a.Asked != 1+edgesOf(a) {
		t.Errorf("Build(%v): %d states, %d kernels, interned %d, asked %d", g, len(a.States), len(numbers), a.Interned, a.Asked)
	}
	if told(a.States[0].Kernel) != "0.0" {
		t.Errorf("Build(%v): state 0 is %s", g, told(a.States[0].Kernel))
	}
}

func TestWhatFollowsOfStates(t *testing.T) {
	built, full := 0, 0
	manyGrammars(t, 400, func(r func(int) int, g api.Grammar) {
		a, err := lr0.Build(g)
		if err != api.OK {
			return
		}
		built++
		if len(a.States) > 100 {
			full++
		}
		wantUnlike(t, g, a)
		wantEdges(t, g, a)
		wantReached(t, g, a)
	})
	if built < 300 || full < 50 {
		t.Errorf("%d were built, %d of them of more than 100 states", built, full)
	}
}

// States are numbered as they are found: whoever goes over the edges of all states, one by one, meets them by rising numbers.
func TestStatesAreNumberedAsTheyAreFound(t *testing.T) {
	manyGrammars(t, 1200, func(r func(int) int, g api.Grammar) {
		a, _ := lr0.Build(g)
		next := 1
		for i, state := range a.States {
			for _, edge := range state.Edges {
				if edge.To > next || i >= next {
					t.Fatalf("Build(%v): state %d leads to %d ahead of %d", g, i, edge.To, next)
				}
				next = max(next, edge.To+1)
			}
		}
		if len(a.States) > 0 && next != len(a.States) {
			t.Errorf("Build(%v): only %d of %d states are met", g, next, len(a.States))
		}
	})
}

func TestClosuresOfClosures(t *testing.T) {
	manyGrammars(t, 1500, func(r func(int) int, g api.Grammar) {
		items := someItems(r, g, 6)
		closure := closureOf(t, g, items...)
		if !isInOrder(closure) {
			t.Errorf("Closure(%v, %s) is %s", g, told(items), told(closure))
		}
		if again := closureOf(t, g, closure...); !slices.Equal(again, closure) {
			t.Errorf("Closure(%v) of the closure %s is %s", g, told(closure), told(again))
		}
		for sym := range len(g.Terms) + len(g.Nons) {
			kernel, again := kernelOf(t, g, sym, items...), kernelOf(t, g, sym, closure...)
			if !isInOrder(kernel) || !slices.Equal(kernel, again) {
				t.Errorf("Goto(%v, %d, %s) is %s, of the closure %s", g, sym, told(items), told(kernel), told(again))
			}
		}
		// What is asked of two lists at once is what is asked of each, and nothing else.
		more := someItems(r, g, 3)
		both := slices.Concat(closure, closureOf(t, g, more...))
		slices.SortFunc(both, func(a, b api.Item) int { return (a.Prod-b.Prod)<<16 + a.Dot - b.Dot })
		if got := closureOf(t, g, slices.Concat(more, items)...); !slices.Equal(got, slices.Compact(both)) {
			t.Errorf("Closure(%v) of %s and %s is %s", g, told(items), told(more), told(got))
		}
	})
}

// R4

// What is answered of items does not hang on the order in which they are given, nor on how often.
func TestTheOrderOfItemsIsNothingToClosures(t *testing.T) {
	manyGrammars(t, 600, func(r func(int) int, g api.Grammar) {
		items := someItems(r, g, 6)
		mixed := slices.Concat(items, items[:r(len(items)+1)])
		shuffle(r, mixed)
		if a, b := closureOf(t, g, items...), closureOf(t, g, mixed...); !slices.Equal(a, b) {
			t.Errorf("Closure(%v) of %s is %s, of %s %s", g, told(items), told(a), told(mixed), told(b))
		}
		for sym := range len(g.Terms) + len(g.Nons) {
			if a, b := kernelOf(t, g, sym, items...), kernelOf(t, g, sym, mixed...); !slices.Equal(a, b) {
				t.Errorf("Goto(%v, %d) of %s is %s, of %s %s", g, sym, told(items), told(a), told(mixed), told(b))
			}
		}
	})
}

func TestBuiltAgainItIsTheSame(t *testing.T) {
	manyGrammars(t, 200, func(r func(int) int, g api.Grammar) {
		a, errA := lr0.Build(g)
		b, errB := lr0.Build(gram.Copy(g))
		if errA != errB || toldStates(a.States) != toldStates(b.States) || a.Asked != b.Asked {
			t.Errorf("Build(%v) is %s, and %s", g, toldStates(a.States), toldStates(b.States))
		}
	})
}

// Q2

// seen is an item with a lookahead, as only the canonical collection has it.
type seen struct {
	item api.Item
	term int
}

// spread puts in all that items with lookaheads bring along.
func spread(g api.Grammar, in map[seen]bool) {
	var work []seen
	for one := range in {
		work = append(work, one)
	}
	for len(work) > 0 {
		one := work[0]
		work = work[1:]
		rest := g.Prods[one.item.Prod].Right[one.item.Dot:]
		if len(rest) == 0 || rest[0] < len(g.Terms) {
			continue
		}
		terms, _, _ := first.Row(g, append(slices.Clone(rest[1:]), one.term)...)
		for i, p := range g.Prods {
			for _, term := range terms {
				next := seen{api.Item{Prod: i}, term}
				if p.Left == rest[0] && !in[next] {
					in[next] = true
					work = append(work, next)
				}
			}
		}
	}
}

// kernelTexts tell the kernel of such a set, with lookaheads and without.
func kernelTexts(in map[seen]bool) (whole, core string) {
	var kernel []seen
	var items []api.Item
	for one := range in {
		if one.item.Dot > 0 || one.item.Prod == 0 {
			kernel = append(kernel, one)
			items = append(items, one.item)
		}
	}
	slices.SortFunc(kernel, func(a, b seen) int {
		return slices.Compare([]int{a.item.Prod, a.item.Dot, a.term}, []int{b.item.Prod, b.item.Dot, b.term})
	})
	for _, one := range kernel {
		whole += told([]api.Item{one.item}) + ":" + strconv.Itoa(one.term) + " "
	}
	slices.SortFunc(items, func(a, b api.Item) int { return slices.Compare([]int{a.Prod, a.Dot}, []int{b.Prod, b.Dot}) })
	return whole, told(slices.Compact(items))
}

// canonical are the unlike cores of the canonical LR(1) collection, sorted, and how many states that has; false: more than are waited for here.
func canonical(g api.Grammar) (cores []string, states int, ok bool) {
	sets := []map[seen]bool{{seen{}: true}}
	known := map[string]int{}
	for i := 0; i < len(sets); i++ {
		if len(sets) > 300 {
			return nil, 0, false
		}
		spread(g, sets[i])
		_, core := kernelTexts(sets[i])
		cores = append(cores, core)
		for sym := 1; sym < len(g.Terms)+len(g.Nons); sym++ {
			next := map[seen]bool{}
			for one := range sets[i] {
				if isAhead(g, one.item, sym) {
					next[seen{api.Item{Prod: one.item.Prod, Dot: one.item.Dot + 1}, one.term}] = true
				}
			}
			whole, _ := kernelTexts(next)
			if _, there := known[whole]; len(next) > 0 && !there {
				known[whole] = len(sets)
				sets = append(sets, next)
			}
		}
	}
	slices.Sort(cores)
	return slices.Compact(cores), len(sets), true
}

// Where all nonterminals are useful, the states are the unlike cores of the canonical collection.
func TestStatesAreTheCoresOfTheCanonicalCollection(t *testing.T) {
	held, merged := 0, 0
	for seed := range uint64(4000) {
		r := source(seed)
		plain := plainOf(someClosed(r, 3, 5, 4))
		if !gram.Valid(plain) {
			t.Fatalf("%v is not plain", plain)
		}
		g, err := reach.Reduce(plain)
		if err != api.OK {
			continue
		}
		cores, states, ok := canonical(g)
		a, err := lr0.Build(g)
		if !ok || err != api.OK {
			continue
		}
		held++
		if states > len(cores) {
			merged++
		}
		var kernels []string
		for _, state := range a.States {
			kernels = append(kernels, told(state.Kernel))
		}
		slices.Sort(kernels)
		if a.Interned != len(cores) || !slices.Equal(kernels, cores) {
			t.Errorf("Build(%v) has the kernels %v; the cores are %v", g, kernels, cores)
		}
	}
	if held < 1000 || merged < 200 {
		t.Errorf("%d grammars were held against the canonical collection, %d of them have fewer states", held, merged)
	}
}

// plainOf is a closed grammar without the added one and its production, its productions in an order that a plain one may have.
func plainOf(g api.Grammar) api.Grammar {
	added := len(g.Terms)
	p := api.Grammar{Terms: g.Terms, Nons: g.Nons[1:], Levels: g.Levels, Start: g.Start - 1}
	for _, prod := range g.Prods[1:] {
		right := slices.Clone(prod.Right)
		for i, sym := range right {
			if sym > added {
				right[i]--
			}
		}
		p.Prods = append(p.Prods, api.Prod{Left: prod.Left - 1, Right: right})
	}
	slices.SortStableFunc(p.Prods, func(a, b api.Prod) int { return a.Left - b.Left })
	return p
}
