package trans_test

import (
	"slices"
	"strconv"
	"testing"

	"presage/api"
	"presage/gram"
	"presage/lr0"
	"presage/trans"
)

// source gives numbers below n that hang on the seed alone.
func source(seed uint64) func(n int) int {
	state := seed*2 + 1
	return func(n int) int {
		state = state*6364136223846793005 + 1442695040888963407
		return int(state>>33) % n
	}
}

// someClosed is a closed grammar of at most so many terminals, nonterminals, and symbols in a row.
func someClosed(r func(int) int, terms, nons, length int) api.Grammar {
	g := api.Grammar{Terms: []api.Term{{}}, Nons: []string{""}}
	for i := range r(terms + 1) {
		g.Levels = append(g.Levels, 1+r(3))
		g.Terms = append(g.Terms, api.Term{Name: "t" + strconv.Itoa(i), Level: i + 1})
	}
	g.Prods = []api.Prod{{Left: len(g.Terms)}}
	for i := range 1 + r(nons) {
		g.Nons = append(g.Nons, "n"+strconv.Itoa(i))
		g.Prods = append(g.Prods, api.Prod{Left: len(g.Terms) + 1 + i})
		for range r(2) {
			g.Prods = append(g.Prods, api.Prod{Left: len(g.Terms) + 1 + r(i+1)})
		}
	}
	for i := range g.Prods {
		g.Prods[i].Right = someRow(r, g, length)
	}
	g.Start = len(g.Terms) + 1 + r(len(g.Nons)-1)
	g.Prods[0].Right = []int{g.Start}
	shuffle(r, g.Prods[1:])
	return g
}

// someRow is a row of at most so many symbols, terminals and nonterminals.
func someRow(r func(int) int, g api.Grammar, length int) []int {
	var row []int
	for range r(length + 1) {
		sym := len(g.Terms) + 1 + r(len(g.Nons)-1)
		if len(g.Terms) > 1 && r(2) == 0 {
			sym = 1 + r(len(g.Terms)-1)
		}
		row = append(row, sym)
	}
	return row
}

func shuffle[T any](r func(int) int, list []T) {
	for i := range list {
		j := i + r(len(list)-i)
		list[i], list[j] = list[j], list[i]
	}
}

// manyGrammars are so many closed grammars of all sizes: of few states, of many, and of too many.
func manyGrammars(t *testing.T, count uint64, each func(r func(int) int, g api.Grammar)) {
	t.Helper()
	for seed := range count {
		r := source(seed)
		var g api.Grammar
		switch seed % 6 {
		case 0:
			g = someClosed(r, 3, 5, 3)
		case 1:
			g = someClosed(r, 1, 3, 5)
		case 2:
			g = someClosed(r, 2, 6, 12)
		case 3:
			g = someClosed(r, 3, 12, 24)
		case 4:
			g = someClosed(r, 12, 48, 4)
		case 5:
			g = someClosed(r, 12, 48, 8)
		}
		if !gram.Closed(g) {
			t.Fatalf("%v is not closed", g)
		}
		each(r, g)
	}
}

// said is what the document says of the ways through an automaton, reckoned a second time: not by edges, but by the closures of the states' kernels, and by which state has a kernel.
type said struct {
	grammar  api.Grammar
	closures [][]api.Item
	numbers  map[string]int // by a kernel's text
}

// saidOf is that of a grammar; false: it has too many states.
func saidOf(t *testing.T, g api.Grammar) (said, bool) {
	t.Helper()
	a, err := lr0.Build(g)
	if err != api.OK {
		return said{}, false
	}
	s := said{grammar: g, numbers: map[string]int{}}
	for i, state := range a.States {
		closure, err := lr0.Closure(g, state.Kernel...)
		if err != api.OK {
			t.Fatalf("Closure(%v, %v) answers %d", g, state.Kernel, err)
		}
		s.closures = append(s.closures, closure)
		s.numbers[toldItems(state.Kernel)] = i
	}
	return s, true
}

func toldItems(items []api.Item) string {
	text := ""
	for _, item := range items {
		text += strconv.Itoa(item.Prod) + "." + strconv.Itoa(item.Dot) + " "
	}
	return text
}

func (s said) symbols() int { return len(s.grammar.Terms) + len(s.grammar.Nons) }

// behind are the items of a state's closure ahead of a symbol, gone on.
func (s said) behind(state, sym int) []api.Item {
	var kernel []api.Item
	for _, item := range s.closures[state] {
		rest := s.grammar.Prods[item.Prod].Right[item.Dot:]
		if len(rest) > 0 && rest[0] == sym {
			kernel = append(kernel, api.Item{Prod: item.Prod, Dot: item.Dot + 1})
		}
	}
	return kernel
}

// walk is the state that has the kernel behind a row; -1: one of the kernels on the way is empty.
func (s said) walk(t *testing.T, from int, row ...int) int {
	t.Helper()
	for _, sym := range row {
		kernel := s.behind(from, sym)
		if len(kernel) == 0 {
			return -1
		}
		to, there := s.numbers[toldItems(kernel)]
		if !there {
			t.Fatalf("%v: no state has the kernel %s", s.grammar, toldItems(kernel))
		}
		from = to
	}
	return from
}

// list are the states and nonterminals for which a Dot stands ahead of that one.
func (s said) list() []api.Trans {
	var list []api.Trans
	for state := range s.closures {
		for sym := len(s.grammar.Terms); sym < s.symbols(); sym++ {
			if len(s.behind(state, sym)) > 0 {
				list = append(list, api.Trans{State: state, Sym: sym})
			}
		}
	}
	return list
}

// direct are of each transition the terminals of which a Dot stands ahead where it leads; the end marker, where the added production is completed there.
func (s said) direct(t *testing.T) [][]int {
	t.Helper()
	var direct [][]int
	for _, one := range s.list() {
		to := s.walk(t, one.State, one.Sym)
		var terms []int
		if slices.Contains(s.closures[to], api.Item{Prod: 0, Dot: 1}) {
			terms = append(terms, 0)
		}
		for term := 1; term < len(s.grammar.Terms); term++ {
			if len(s.behind(to, term)) > 0 {
				terms = append(terms, term)
			}
		}
		direct = append(direct, terms)
	}
	return direct
}

// wantAsSaid wants of a grammar the transitions and direct ones that the document tells; how many transitions there are, 0: ErrTooBig.
func wantAsSaid(t *testing.T, g api.Grammar) (transitions int) {
	t.Helper()
	s, ok := saidOf(t, g)
	if !ok {
		wantError(t, "too many states", g, api.ErrTooBig)
		return 0
	}
	wantList(t, g, toldList(s.list()))
	wantDirect(t, g, toldDirect(s.direct(t)))
	return len(s.list())
}

// P10.1, P10.3

func TestManyTransitions(t *testing.T) {
	few, many, tooBig := 0, 0, 0
	manyGrammars(t, 1200, func(r func(int) int, g api.Grammar) {
		switch transitions := wantAsSaid(t, g); {
		case transitions == 0:
			tooBig++
		case transitions <= 20:
			few++
		default:
			many++
		}
	})
	if few < 500 || many < 200 || tooBig < 20 {
		t.Errorf("%d grammars have at most 20 transitions, %d more, %d too many states", few, many, tooBig)
	}
}

// smallGrammars are all closed grammars of one terminal, with productions of these nonterminals (by their numbers among these) and at most two symbols, from each start symbol.
func smallGrammars(each func(g api.Grammar), lefts ...int) {
	g := api.Grammar{Terms: []api.Term{{}, {Name: "x"}}, Nons: []string{""}, Prods: make([]api.Prod, 1+len(lefts))}
	for i := range slices.Max(lefts) + 1 {
		g.Nons = append(g.Nons, "n"+strconv.Itoa(i))
	}
	rows := rowsOf(2+len(g.Nons), 2)
	var fill func(i int)
	fill = func(i int) {
		if i < len(lefts) {
			for _, row := range rows {
				g.Prods[1+i] = api.Prod{Left: 3 + lefts[i], Right: row}
				fill(i + 1)
			}
			return
		}
		for start := range g.Nons[1:] {
			g.Start = 3 + start
			g.Prods[0] = api.Prod{Left: 2, Right: []int{g.Start}}
			each(g)
		}
	}
	fill(0)
}

// rowsOf are the rows of at most two symbols below n, the end marker and the added one not.
func rowsOf(n, added int) [][]int {
	rows := [][]int{nil}
	for a := 1; a < n; a++ {
		if a == added {
			continue
		}
		rows = append(rows, []int{a})
		for b := 1; b < n; b++ {
			if b != added {
				rows = append(rows, []int{a, b})
			}
		}
	}
	return rows
}

func TestSmallGrammars(t *testing.T) {
	count := 0
	for _, lefts := range [][]int{{0}, {0, 0}, {0, 0, 0}, {0, 1}, {1, 0}, {0, 0, 1}, {0, 1, 0}, {1, 0, 0}, {0, 1, 1}, {1, 0, 1}, {1, 1, 0}} {
		smallGrammars(func(g api.Grammar) {
			count++
			wantAsSaid(t, g)
		}, lefts...)
	}
	if count != 7+49+343+2*(2*169+6*2197) {
		t.Errorf("%d small grammars", count)
	}
}

// P10.2

// someWay is a row that mostly keeps to the edges of a state and of those behind it.
func someWay(r func(int) int, a api.Automaton, symbols, from, length int) []int {
	var row []int
	for range r(length + 1) {
		if edges := a.States[from].Edges; len(edges) > 0 && r(12) > 0 {
			edge := edges[r(len(edges))]
			row, from = append(row, edge.Sym), edge.To
		} else {
			row = append(row, r(symbols))
		}
	}
	return row
}

func TestManyWalks(t *testing.T) {
	leading, lost := 0, 0
	manyGrammars(t, 900, func(r func(int) int, g api.Grammar) {
		s, ok := saidOf(t, g)
		if !ok {
			return
		}
		a, _ := lr0.Build(g)
		for range 8 {
			from := r(len(a.States))
			row := someWay(r, a, s.symbols(), from, 10)
			want := s.walk(t, from, row...)
			wantWalk(t, g, want, from, row...)
			if want < 0 {
				lost++
			} else if len(row) > 2 {
				leading++
			}
			at := r(len(row) + 1)
			wantWalkError(t, "no symbol", g, api.ErrArg, from, slices.Insert(slices.Clone(row), at, s.symbols()+r(3))...)
			wantWalkError(t, "no symbol", g, api.ErrArg, from, slices.Insert(slices.Clone(row), at, -1-r(3))...)
			wantWalkError(t, "no state", g, api.ErrArg, len(a.States)+r(3), row...)
			wantWalkError(t, "no state", g, api.ErrArg, -1-r(3), row...)
		}
	})
	if leading < 500 || lost < 500 {
		t.Errorf("%d longer rows lead to a state, %d rows nowhere", leading, lost)
	}
}

// From each state by each symbol, and by each two.
func TestAllShortWalks(t *testing.T) {
	for seed := range uint64(400) {
		g := someClosed(source(seed), 2, 2, 3)
		s, ok := saidOf(t, g)
		if !ok {
			t.Fatalf("%v has too many states", g)
		}
		for from := range s.closures {
			wantWalk(t, g, from, from)
			for a := range s.symbols() {
				wantWalk(t, g, s.walk(t, from, a), from, a)
				for b := range s.symbols() {
					wantWalk(t, g, s.walk(t, from, a, b), from, a, b)
				}
			}
		}
	}
}

// P10.4

// leads is Walk, wanted to have no error.
func leads(t *testing.T, g api.Grammar, from int, syms ...int) int {
	t.Helper()
	to, err := trans.Walk(g, from, syms...)
	if err != api.OK {
		t.Errorf("Walk(%v, %d, %v) answers %d", g, from, syms, err)
	}
	return to
}

func TestTransitionsAreTheNonterminalEdges(t *testing.T) {
	manyGrammars(t, 1200, func(r func(int) int, g api.Grammar) {
		a, err := lr0.Build(g)
		if err != api.OK {
			return
		}
		list, _ := trans.List(g)
		direct, _ := trans.Direct(g)
		if len(direct) != len(list) {
			t.Fatalf("%v has %d transitions, but %d lists of terminals", g, len(list), len(direct))
		}
		number := 0
		for from, state := range a.States {
			for _, edge := range state.Edges {
				if edge.Sym < len(g.Terms) {
					continue
				}
				if number == len(list) || list[number] != (api.Trans{State: from, Sym: edge.Sym}) {
					t.Fatalf("List(%v) is %s; number %d is not the edge of state %d by %d", g, toldList(list), number, from, edge.Sym)
				}
				number++
			}
		}
		if number != len(list) {
			t.Errorf("List(%v) has %d transitions, not %d", g, len(list), number)
		}
		ends := slices.DeleteFunc(slices.Clone(list), func(one api.Trans) bool {
			return !slices.Contains(direct[slices.Index(list, one)], 0)
		})
		if !slices.Equal(ends, []api.Trans{{State: 0, Sym: g.Start}}) {
			t.Errorf("%v: the end marker stands behind %s", g, toldList(ends))
		}
	})
}

func TestWalksOneBehindTheOther(t *testing.T) {
	leading, lost := 0, 0
	manyGrammars(t, 1200, func(r func(int) int, g api.Grammar) {
		a, err := lr0.Build(g)
		if err != api.OK {
			return
		}
		for range 4 {
			from := r(len(a.States))
			row := someWay(r, a, len(g.Terms)+len(g.Nons), from, 8)
			cut := r(len(row) + 1)
			whole, middle := leads(t, g, from, row...), leads(t, g, from, row[:cut]...)
			if middle < 0 {
				lost++
				if whole >= 0 {
					t.Errorf("%v: from %d %v leads nowhere, but %v to %d", g, from, row[:cut], row, whole)
				}
				continue
			}
			if whole >= 0 {
				leading++
			}
			if rest := leads(t, g, middle, row[cut:]...); rest != whole {
				t.Errorf("%v: from %d %v leads to %d, from there %v to %d, but both to %d", g, from, row[:cut], middle, row[cut:], rest, whole)
			}
		}
	})
	if leading < 1500 || lost < 300 {
		t.Errorf("%d rows lead to a state, %d are lost midway", leading, lost)
	}
}

// wantItemLeads wants of an item A -> u . v of a state's closure that v leads to where it is completed, and, if u is empty, that A leads somewhere.
func wantItemLeads(t *testing.T, s said, state int, item api.Item) {
	t.Helper()
	g := s.grammar
	p := g.Prods[item.Prod]
	to := leads(t, g, state, p.Right[item.Dot:]...)
	if to < 0 || !slices.Contains(s.closures[to], api.Item{Prod: item.Prod, Dot: len(p.Right)}) {
		t.Errorf("%v: state %d has %v, but what is behind its Dot leads to %d", g, state, item, to)
	}
	if to := leads(t, g, state, p.Left); item.Dot == 0 && (item.Prod == 0) != (to < 0) {
		t.Errorf("%v: state %d has %v, and its Left leads to %d", g, state, item, to)
	}
}

func TestItemsLeadSomewhere(t *testing.T) {
	manyGrammars(t, 900, func(r func(int) int, g api.Grammar) {
		s, ok := saidOf(t, g)
		if !ok {
			return
		}
		for range 8 {
			state := r(len(s.closures))
			wantItemLeads(t, s, state, s.closures[state][r(len(s.closures[state]))])
		}
		wantItemLeads(t, s, 0, api.Item{})
	})
}

func TestItemsOfSmallGrammarsLeadSomewhere(t *testing.T) {
	for _, lefts := range [][]int{{0}, {0, 0}, {0, 0, 0}, {0, 1}, {1, 0}} {
		smallGrammars(func(g api.Grammar) {
			s, _ := saidOf(t, g)
			for state, closure := range s.closures {
				for _, item := range closure {
					wantItemLeads(t, s, state, item)
				}
			}
		}, lefts...)
	}
}

// R4

func TestAskedAgainItIsTheSame(t *testing.T) {
	manyGrammars(t, 300, func(r func(int) int, g api.Grammar) {
		again := gram.Copy(g)
		for i := range again.Terms {
			again.Terms[i].Level = 0
		}
		again.Levels = nil
		listA, errA := trans.List(g)
		listB, errB := trans.List(again)
		directA, _ := trans.Direct(g)
		directB, _ := trans.Direct(again)
		if errA != errB || !slices.Equal(listA, listB) || toldDirect(directA) != toldDirect(directB) {
			t.Errorf("%v has the transitions %s, and without levels %s", g, toldList(listA), toldList(listB))
		}
		row := someRow(r, g, 4)
		a, errA := trans.Walk(g, 0, row...)
		b, errB := trans.Walk(again, 0, row...)
		if a != b || errA != errB {
			t.Errorf("%v: %v leads to %d, and without levels to %d", g, row, a, b)
		}
	})
}
