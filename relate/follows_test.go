package relate_test

import (
	"slices"
	"strconv"
	"testing"

	"presage/api"
	"presage/first"
	"presage/gram"
	"presage/lr0"
	"presage/reach"
	"presage/relate"
	"presage/trans"
)

// source gives numbers below n that hang on the seed alone.
func source(seed uint64) func(n int) int {
	state := seed*2 + 1
	return func(n int) int {
		state = state*6364136223846793005 + 1442695040888963407
		return int(state>>33) % n
	}
}

// someClosed is a closed grammar of at most so many terminals, nonterminals, and symbols in a row. One of so many of its productions has no symbols.
func someClosed(r func(int) int, terms, nons, length, empty int) api.Grammar {
	g := api.Grammar{Terms: []api.Term{{}}, Nons: []string{""}}
	for i := range r(terms + 1) {
		g.Levels = append(g.Levels, 1+r(3))
		g.Terms = append(g.Terms, api.Term{Name: "t" + strconv.Itoa(i), Level: i + 1})
	}
	g.Prods = []api.Prod{{Left: len(g.Terms)}}
	for i := range 1 + r(nons) {
		g.Nons = append(g.Nons, "n"+strconv.Itoa(i))
		g.Prods = append(g.Prods, api.Prod{Left: len(g.Terms) + 1 + i})
		for range r(2) {
			g.Prods = append(g.Prods, api.Prod{Left: len(g.Terms) + 1 + r(i+1)})
		}
	}
	for i := range g.Prods {
		if r(empty) > 0 {
			g.Prods[i].Right = someRow(r, g, length)
		}
	}
	g.Start = len(g.Terms) + 1 + r(len(g.Nons)-1)
	g.Prods[0].Right = []int{g.Start}
	shuffle(r, g.Prods[1:])
	return g
}

// someRow is a row of at most so many symbols, terminals and nonterminals.
func someRow(r func(int) int, g api.Grammar, length int) []int {
	var row []int
	for range r(length + 1) {
		sym := len(g.Terms) + 1 + r(len(g.Nons)-1)
		if len(g.Terms) > 1 && r(2) == 0 {
			sym = 1 + r(len(g.Terms)-1)
		}
		row = append(row, sym)
	}
	return row
}

func shuffle[T any](r func(int) int, list []T) {
	for i := range list {
		j := i + r(len(list)-i)
		list[i], list[j] = list[j], list[i]
	}
}

// manyGrammars are so many closed grammars of all sizes: of few states, of many, and of too many; of few that vanish, and of many.
func manyGrammars(t *testing.T, count uint64, each func(r func(int) int, g api.Grammar)) {
	t.Helper()
	for seed := range count {
		r := source(seed)
		empty := 2 + r(8)
		var g api.Grammar
		switch seed % 6 {
		case 0:
			g = someClosed(r, 3, 5, 3, empty)
		case 1:
			g = someClosed(r, 1, 3, 5, empty)
		case 2:
			g = someClosed(r, 2, 6, 12, empty)
		case 3:
			g = someClosed(r, 3, 12, 24, empty)
		case 4:
			g = someClosed(r, 12, 48, 4, empty)
		case 5:
			g = someClosed(r, 12, 48, 12, empty)
		}
		if !gram.Closed(g) {
			t.Fatalf("%v is not closed", g)
		}
		each(r, g)
	}
}

// smallGrammars are all closed grammars of one terminal, with productions of these nonterminals (by their numbers among these) and at most two symbols, from each start symbol.
func smallGrammars(each func(g api.Grammar), lefts ...int) {
	g := api.Grammar{Terms: []api.Term{{}, {Name: "x"}}, Nons: []string{""}, Prods: make([]api.Prod, 1+len(lefts))}
	for i := range slices.Max(lefts) + 1 {
		g.Nons = append(g.Nons, "n"+strconv.Itoa(i))
	}
	rows := rowsOf(2+len(g.Nons), 2)
	var fill func(i int)
	fill = func(i int) {
		if i < len(lefts) {
			for _, row := range rows {
				g.Prods[1+i] = api.Prod{Left: 3 + lefts[i], Right: row}
				fill(i + 1)
			}
			return
		}
		for start := range g.Nons[1:] {
			g.Start = 3 + start
			g.Prods[0] = api.Prod{Left: 2, Right: []int{g.Start}}
			each(g)
		}
	}
	fill(0)
}

// rowsOf are the rows of at most two symbols below n, the end marker and the added one not.
func rowsOf(n, added int) [][]int {
	rows := [][]int{nil}
	for a := 1; a < n; a++ {
		if a == added {
			continue
		}
		rows = append(rows, []int{a})
		for b := 1; b < n; b++ {
			if b != added {
				rows = append(rows, []int{a, b})
			}
		}
	}
	return rows
}

// allSmallGrammars are those of one or two nonterminals and at most three productions, in all orders of these.
func allSmallGrammars(each func(g api.Grammar)) {
	for _, lefts := range [][]int{{0}, {0, 0}, {0, 0, 0}, {0, 1}, {1, 0}, {0, 0, 1}, {0, 1, 0}, {1, 0, 0}, {0, 1, 1}, {1, 0, 1}, {1, 1, 0}} {
		smallGrammars(each, lefts...)
	}
}

// said is what the document says of the relations, reckoned a second time by its very words: each two transitions are held against each other, and what is completed is asked of closures.
type said struct {
	grammar     api.Grammar
	states      []api.State
	closures    [][]api.Item
	transitions []api.Trans
	rests       [][]bool // by production and place: whether what stands from there on derives the empty row
}

// saidOf is that of a grammar; false: it has too many states.
func saidOf(t *testing.T, g api.Grammar) (said, bool) {
	t.Helper()
	a, err := lr0.Build(g)
	if err != api.OK {
		return said{}, false
	}
	s := said{grammar: g, states: a.States}
	for _, state := range a.States {
		closure, _ := lr0.Closure(g, state.Kernel...)
		s.closures = append(s.closures, closure)
	}
	s.transitions, _ = trans.List(g)
	for _, p := range g.Prods {
		var rests []bool
		for at := range len(p.Right) + 1 {
			_, vanishes, err := first.Row(g, p.Right[at:]...)
			if err != api.OK {
				t.Fatalf("Row(%v, %v) answers %d", g, p.Right[at:], err)
			}
			rests = append(rests, vanishes)
		}
		s.rests = append(s.rests, rests)
	}
	return s, true
}

// walk is the state to which a row leads; -1: none.
func (s said) walk(from int, row ...int) int {
	for _, sym := range row {
		at := slices.IndexFunc(s.states[from].Edges, func(edge api.Edge) bool { return edge.Sym == sym })
		if at < 0 {
			return -1
		}
		from = s.states[from].Edges[at].To
	}
	return from
}

// reads are P11.1's.
func (s said) reads() [][]int {
	nullable, _ := first.Nullable(s.grammar)
	lists := make([][]int, len(s.transitions))
	for i, one := range s.transitions {
		to := s.walk(one.State, one.Sym)
		for j, other := range s.transitions {
			if other.State == to && nullable[other.Sym-len(s.grammar.Terms)] {
				lists[i] = append(lists[i], j)
			}
		}
	}
	return lists
}

// includes are P11.2's.
func (s said) includes() [][]int {
	lists := make([][]int, len(s.transitions))
	for j, other := range s.transitions {
		// Where each of the places leads that may be included, and what stands there.
		places := map[api.Trans]int{}
		for prod, p := range s.grammar.Prods {
			for at, sym := range p.Right {
				if p.Left == other.Sym && s.rests[prod][at+1] {
					places[api.Trans{State: s.walk(other.State, p.Right[:at]...), Sym: sym}]++
				}
			}
		}
		for i, one := range s.transitions {
			if places[one] > 0 {
				lists[i] = append(lists[i], j)
			}
		}
	}
	return lists
}

// lookback are P11.3's.
func (s said) lookback() []api.Back {
	var backs []api.Back
	for state, closure := range s.closures {
		for _, item := range closure {
			p := s.grammar.Prods[item.Prod]
			if item.Prod == 0 || item.Dot < len(p.Right) {
				continue
			}
			back := api.Back{State: state, Prod: item.Prod}
			for number, one := range s.transitions {
				if one.Sym == p.Left && s.walk(one.State, p.Right...) == state {
					back.Trans = append(back.Trans, number)
				}
			}
			backs = append(backs, back)
		}
	}
	return backs
}

// wantAsSaid wants of a grammar the relations that the document tells; how many edges of Reads, Includes and Lookback there are, none: ErrTooBig.
func wantAsSaid(t *testing.T, g api.Grammar) (reads, includes, backs int) {
	t.Helper()
	s, ok := saidOf(t, g)
	if !ok {
		wantError(t, "too many states", g, api.ErrTooBig)
		return 0, 0, 0
	}
	saidReads, saidIncludes, saidBacks := s.reads(), s.includes(), s.lookback()
	wantReads(t, g, toldLists(saidReads))
	wantIncludes(t, g, toldLists(saidIncludes))
	wantLookback(t, g, toldBacks(saidBacks))
	for _, back := range saidBacks {
		backs += len(back.Trans)
	}
	return len(slices.Concat(saidReads...)), len(slices.Concat(saidIncludes...)), backs
}

// P11.1 to P11.3

func TestManyRelations(t *testing.T) {
	reading, including, many, tooBig := 0, 0, 0, 0
	manyGrammars(t, 1200, func(r func(int) int, g api.Grammar) {
		reads, includes, backs := wantAsSaid(t, g)
		if reads > 10 {
			reading++
		}
		if includes > 10 {
			including++
		}
		if backs > 100 {
			many++
		}
		if backs == 0 {
			tooBig++
		}
	})
	if reading < 200 || including < 300 || many < 150 || tooBig < 20 {
		t.Errorf("%d grammars have more than 10 edges of Reads, %d of Includes, %d more than 100 of Lookback, %d too many states", reading, including, many, tooBig)
	}
}

func TestSmallGrammars(t *testing.T) {
	count := 0
	allSmallGrammars(func(g api.Grammar) {
		count++
		wantAsSaid(t, g)
	})
	if count != 7+49+343+2*(2*169+6*2197) {
		t.Errorf("%d small grammars", count)
	}
}

// P11.4

// wantBegunAreTransitions wants that {p, A} is a transition wherever B -> u A v is a production, {p', B} a transition, and u leads from p' to p.
func wantBegunAreTransitions(t *testing.T, s said) {
	t.Helper()
	for _, other := range s.transitions {
		for _, p := range s.grammar.Prods {
			for at, sym := range p.Right {
				if p.Left != other.Sym || sym < len(s.grammar.Terms) {
					continue
				}
				one := api.Trans{State: s.walk(other.State, p.Right[:at]...), Sym: sym}
				if !slices.Contains(s.transitions, one) {
					t.Errorf("%v: from the transition %v %v leads to %v, which is none", s.grammar, other, p.Right[:at], one)
				}
			}
		}
	}
}

// wantBackToOneAlone wants that a production without symbols is completed in just the states that have a transition of its Left, and looks back to that one alone.
func wantBackToOneAlone(t *testing.T, s said, backs []api.Back) {
	t.Helper()
	for prod, p := range s.grammar.Prods {
		if len(p.Right) > 0 {
			continue
		}
		var want, got []api.Back
		for number, one := range s.transitions {
			if one.Sym == p.Left {
				want = append(want, api.Back{State: one.State, Prod: prod, Trans: []int{number}})
			}
		}
		for _, back := range backs {
			if back.Prod == prod {
				got = append(got, back)
			}
		}
		if toldBacks(got) != toldBacks(want) {
			t.Errorf("%v: the empty production %d looks back by %s; want %s", s.grammar, prod, toldBacks(got), toldBacks(want))
		}
	}
}

// wantBackSomewhere wants that each completed production is told, in order, and looks back to a transition of its Left at least, and that the added one is not told.
func wantBackSomewhere(t *testing.T, s said, backs []api.Back) {
	t.Helper()
	var completed []api.Item
	for state, closure := range s.closures {
		for _, item := range closure {
			if item.Prod > 0 && item.Dot == len(s.grammar.Prods[item.Prod].Right) {
				completed = append(completed, api.Item{Prod: item.Prod, Dot: state})
			}
		}
	}
	if len(backs) != len(completed) {
		t.Fatalf("%v: %d productions are completed, and %d look back", s.grammar, len(completed), len(backs))
	}
	for i, back := range backs {
		if (api.Item{Prod: back.Prod, Dot: back.State}) != completed[i] {
			t.Errorf("%v: number %d is production %d in state %d", s.grammar, i, back.Prod, back.State)
		}
		if len(back.Trans) == 0 {
			t.Errorf("%v: production %d looks back from state %d to nothing", s.grammar, back.Prod, back.State)
		}
		for _, number := range back.Trans {
			if s.transitions[number].Sym != s.grammar.Prods[back.Prod].Left {
				t.Errorf("%v: production %d looks back to %v", s.grammar, back.Prod, s.transitions[number])
			}
		}
	}
}

// wantWhatFollows wants all that P11.4 says.
func wantWhatFollows(t *testing.T, g api.Grammar) {
	t.Helper()
	s, ok := saidOf(t, g)
	if !ok {
		return
	}
	backs, err := relate.Lookback(g)
	if err != api.OK {
		t.Fatalf("Lookback(%v) answers %d", g, err)
	}
	wantBegunAreTransitions(t, s)
	wantBackToOneAlone(t, s, backs)
	wantBackSomewhere(t, s, backs)
}

func TestWhatFollows(t *testing.T) {
	manyGrammars(t, 900, func(r func(int) int, g api.Grammar) { wantWhatFollows(t, g) })
}

func TestWhatFollowsOfSmallGrammars(t *testing.T) {
	allSmallGrammars(func(g api.Grammar) { wantWhatFollows(t, g) })
}

// rises tells whether numbers rise, each once, from 0 on and below a bound.
func rises(numbers []int, below int) bool {
	for i, n := range numbers {
		if n < 0 || n >= below || i > 0 && n <= numbers[i-1] {
			return false
		}
	}
	return true
}

func TestListsRise(t *testing.T) {
	manyGrammars(t, 900, func(r func(int) int, g api.Grammar) {
		list, err := trans.List(g)
		if err != api.OK {
			return
		}
		reads, _ := relate.Reads(g)
		includes, _ := relate.Includes(g)
		backs, _ := relate.Lookback(g)
		if len(reads) != len(list) || len(includes) != len(list) {
			t.Fatalf("%v has %d transitions, but %d and %d lists", g, len(list), len(reads), len(includes))
		}
		all := slices.Concat(reads, includes)
		for _, back := range backs {
			all = append(all, back.Trans)
		}
		for _, numbers := range all {
			if !rises(numbers, len(list)) {
				t.Errorf("%v: %v is no list of transitions", g, numbers)
			}
		}
	})
}

// Q1: what the relations are for. The lookaheads that they lead to are held against those by which states hold items.

// looks are by state, production and terminal whether that is a lookahead.
type looks map[[3]int]int

// handedOn are of each node its own numbers and those of all to which a relation leads, the least such lists.
func handedOn(own, relation [][]int) [][]int {
	sets := make([][]int, len(own))
	for i := range own {
		sets[i] = slices.Clone(own[i])
	}
	for more := true; more; {
		more = false
		for from, tos := range relation {
			for _, to := range tos {
				for _, term := range sets[to] {
					if !slices.Contains(sets[from], term) {
						sets[from] = append(sets[from], term)
						more = true
					}
				}
			}
		}
	}
	return sets
}

// byRelations are the lookaheads by Direct, Reads, Includes and Lookback.
func byRelations(g api.Grammar) looks {
	direct, _ := trans.Direct(g)
	reads, _ := relate.Reads(g)
	includes, _ := relate.Includes(g)
	backs, _ := relate.Lookback(g)
	follow := handedOn(handedOn(direct, reads), includes)
	found := looks{}
	for _, back := range backs {
		for _, number := range back.Trans {
			for _, term := range follow[number] {
				found[[3]int{back.State, back.Prod, term}] = 1
			}
		}
	}
	return found
}

// held is a state that holds an item with a terminal.
type held struct {
	state int
	item  api.Item
	term  int
}

// byHolds are the lookaheads by the document's relation 'holds'.
func byHolds(s said) looks {
	all := []held{{}}
	known := map[held]int{all[0]: 1}
	hold := func(one held) {
		if known[one] == 0 {
			known[one] = 1
			all = append(all, one)
		}
	}
	found := looks{}
	for i := 0; i < len(all); i++ {
		one := all[i]
		rest := s.grammar.Prods[one.item.Prod].Right[one.item.Dot:]
		if len(rest) == 0 {
			if one.item.Prod > 0 {
				found[[3]int{one.state, one.item.Prod, one.term}] = 1
			}
			continue
		}
		hold(held{s.walk(one.state, rest[0]), api.Item{Prod: one.item.Prod, Dot: one.item.Dot + 1}, one.term})
		begins, _, _ := first.Row(s.grammar, append(slices.Clone(rest[1:]), one.term)...)
		for prod, p := range s.grammar.Prods {
			for _, term := range begins {
				if p.Left == rest[0] {
					hold(held{one.state, api.Item{Prod: prod}, term})
				}
			}
		}
	}
	return found
}

// wantLookaheads wants that the relations lead to all that the states hold, and, where all nonterminals are useful, to nothing else; it tells how many lookaheads there are then.
//
// What derives no row of terminals may hide what stands ahead of it from 'holds', but not from the automaton, and so not from the relations.
func wantLookaheads(t *testing.T, g api.Grammar) int {
	t.Helper()
	s, ok := saidOf(t, g)
	if !ok {
		return 0
	}
	want, got := byHolds(s), byRelations(g)
	for one := range want {
		if got[one] == 0 {
			t.Errorf("%v: %v, a lookahead (state, production, terminal), is not found", g, one)
		}
	}
	if useful, _ := reach.Useful(g); slices.Contains(useful, false) {
		return 0
	}
	for one := range got {
		if want[one] == 0 {
			t.Errorf("%v: %v (state, production, terminal) is found, but no lookahead", g, one)
		}
	}
	return len(want)
}

func TestTheRelationsLeadToTheLookaheads(t *testing.T) {
	useful, many := 0, 0
	for seed := range uint64(4000) {
		r := source(seed)
		looks := wantLookaheads(t, someClosed(r, 4, 5, 4+int(seed%2)*4, 2+r(5)))
		if looks > 0 {
			useful++
		}
		if looks > 20 {
			many++
		}
	}
	if useful < 600 || many < 60 {
		t.Errorf("%d grammars without useless ones have lookaheads, %d more than 20", useful, many)
	}
}

func TestTheRelationsLeadToTheLookaheadsOfSmallGrammars(t *testing.T) {
	useful := 0
	for _, lefts := range [][]int{{0}, {0, 0}, {0, 0, 0}, {0, 1}, {1, 0}, {0, 1, 0}, {1, 0, 1}} {
		smallGrammars(func(g api.Grammar) {
			if wantLookaheads(t, g) > 0 {
				useful++
			}
		}, lefts...)
	}
	if useful < 1500 {
		t.Errorf("%d small grammars without useless ones have lookaheads", useful)
	}
}

func TestTheRelationsLeadToTheLookaheadsOfTexts(t *testing.T) {
	for _, text := range []string{
		around,
		nested,
		"e : e '+' t | t ; t : t '*' f | f ; f : '(' e ')' | n ;",
		"s : a 'x' | 'y' a 'z' | b 'z' | 'y' b 'x' ; a : 'w' ; b : 'w' ;",
		"s : l '=' r | r ; l : '*' r | n ; r : l ;",
		"s : a a a a | ; a : b | 'x' ; b : | 'y' s ;",
	} {
		g, err := reach.Reduce(read(t, text))
		if err != api.OK || wantLookaheads(t, g) == 0 {
			t.Errorf("%s has no lookaheads, %d", text, err)
		}
	}
}

// R4

func TestAskedAgainItIsTheSame(t *testing.T) {
	manyGrammars(t, 300, func(r func(int) int, g api.Grammar) {
		again := gram.Copy(g)
		for i := range again.Terms {
			again.Terms[i].Level = 0
		}
		again.Levels = nil
		readsA, errA := relate.Reads(g)
		readsB, errB := relate.Reads(again)
		includesA, _ := relate.Includes(g)
		includesB, _ := relate.Includes(again)
		backsA, _ := relate.Lookback(g)
		backsB, _ := relate.Lookback(again)
		if errA != errB || toldLists(readsA) != toldLists(readsB) || toldLists(includesA) != toldLists(includesB) || toldBacks(backsA) != toldBacks(backsB) {
			t.Errorf("%v has other relations without levels", g)
		}
	})
}
