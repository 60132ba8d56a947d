package look_test

import (
	"slices"
	"strconv"
	"testing"

	"presage/api"
	"presage/first"
	"presage/gram"
	"presage/look"
	"presage/lr0"
	"presage/reach"
	"presage/relate"
	"presage/trans"
)

// source gives numbers below n that hang on the seed alone.
func source(seed uint64) func(n int) int {
	state := seed*2 + 1
	return func(n int) int {
		state = state*6364136223846793005 + 1442695040888963407
		return int(state>>33) % n
	}
}

// someClosed is a closed grammar of at most so many terminals, nonterminals, and symbols in a row. One of so many of its productions has no symbols.
func someClosed(r func(int) int, terms, nons, length, empty int) api.Grammar {
	g := api.Grammar{Terms: []api.Term{{}}, Nons: []string{""}}
	for i := range r(terms + 1) {
		g.Levels = append(g.Levels, 1+r(3))
		g.Terms = append(g.Terms, api.Term{Name: "t" + strconv.Itoa(i), Level: i + 1})
	}
	g.Prods = []api.Prod{{Left: len(g.Terms)}}
	for i := range 1 + r(nons) {
		g.Nons = append(g.Nons, "n"+strconv.Itoa(i))
		g.Prods = append(g.Prods, api.Prod{Left: len(g.Terms) + 1 + i})
		for range r(2) {
			g.Prods = append(g.Prods, api.Prod{Left: len(g.Terms) + 1 + r(i+1)})
		}
	}
	for i := range g.Prods {
		if r(empty) > 0 {
			g.Prods[i].Right = someRow(r, g, length)
		}
	}
	g.Start = len(g.Terms) + 1 + r(len(g.Nons)-1)
	g.Prods[0].Right = []int{g.Start}
	shuffle(r, g.Prods[1:])
	return g
}

// someRow is a row of at most so many symbols, terminals and nonterminals.
func someRow(r func(int) int, g api.Grammar, length int) []int {
	var row []int
	for range r(length + 1) {
		sym := len(g.Terms) + 1 + r(len(g.Nons)-1)
		if len(g.Terms) > 1 && r(2) == 0 {
			sym = 1 + r(len(g.Terms)-1)
		}
		row = append(row, sym)
	}
	return row
}

func shuffle[T any](r func(int) int, list []T) {
	for i := range list {
		j := i + r(len(list)-i)
		list[i], list[j] = list[j], list[i]
	}
}

// manyGrammars are so many closed grammars of all sizes: of few states, of many, and of too many; of few that vanish, and of many.
func manyGrammars(t *testing.T, count uint64, each func(r func(int) int, g api.Grammar)) {
	t.Helper()
	for seed := range count {
		r := source(seed)
		empty := 2 + r(8)
		var g api.Grammar
		switch seed % 6 {
		case 0:
			g = someClosed(r, 3, 5, 3, empty)
		case 1:
			g = someClosed(r, 1, 3, 5, empty)
		case 2:
			g = someClosed(r, 2, 6, 12, empty)
		case 3:
			g = someClosed(r, 3, 12, 24, empty)
		case 4:
			g = someClosed(r, 12, 48, 4, empty)
		case 5:
			g = someClosed(r, 12, 48, 12, empty)
		}
		if !gram.Closed(g) {
			t.Fatalf("%v is not closed", g)
		}
		each(r, g)
	}
}

// smallGrammars are all closed grammars of one terminal, with productions of these nonterminals (by their numbers among these) and at most two symbols, from each start symbol.
func smallGrammars(each func(g api.Grammar), lefts ...int) {
	g := api.Grammar{Terms: []api.Term{{}, {Name: "x"}}, Nons: []string{""}, Prods: make([]api.Prod, 1+len(lefts))}
	for i := range slices.Max(lefts) + 1 {
		g.Nons = append(g.Nons, "n"+strconv.Itoa(i))
	}
	rows := rowsOf(2+len(g.Nons), 2)
	var fill func(i int)
	fill = func(i int) {
		if i < len(lefts) {
			for _, row := range rows {
				g.Prods[1+i] = api.Prod{Left: 3 + lefts[i], Right: row}
				fill(i + 1)
			}
			return
		}
		for start := range g.Nons[1:] {
			g.Start = 3 + start
			g.Prods[0] = api.Prod{Left: 2, Right: []int{g.Start}}
			each(g)
		}
	}
	fill(0)
}

// rowsOf are the rows of at most two symbols below n, the end marker and the added one not.
func rowsOf(n, added int) [][]int {
	rows := [][]int{nil}
	for a := 1; a < n; a++ {
		if a == added {
			continue
		}
		rows = append(rows, []int{a})
		for b := 1; b < n; b++ {
			if b != added {
				rows = append(rows, []int{a, b})
			}
		}
	}
	return rows
}

// allSmallGrammars are those of one or two nonterminals and at most three productions, in all orders of these.
func allSmallGrammars(each func(g api.Grammar)) {
	for _, lefts := range [][]int{{0}, {0, 0}, {0, 0, 0}, {0, 1}, {1, 0}, {0, 0, 1}, {0, 1, 0}, {1, 0, 0}, {0, 1, 1}, {1, 0, 1}, {1, 1, 0}} {
		smallGrammars(each, lefts...)
	}
}

// said is what the document says of a grammar's lists, reckoned a second time by its very words: what one list has of another is handed on till no list grows.
type said struct {
	reading, following [][]int
	sets               []api.Look
}

// saidOf is that of a grammar; false: it has too many states.
func saidOf(g api.Grammar) (said, bool) {
	direct, err := trans.Direct(g)
	if err != api.OK {
		return said{}, false
	}
	reads, _ := relate.Reads(g)
	includes, _ := relate.Includes(g)
	backs, _ := relate.Lookback(g)
	s := said{reading: handedOn(direct, reads)}
	s.following = handedOn(s.reading, includes)
	for _, back := range backs {
		var terms []int
		for term := range g.Terms {
			if slices.ContainsFunc(back.Trans, func(number int) bool { return slices.Contains(s.following[number], term) }) {
				terms = append(terms, term)
			}
		}
		s.sets = append(s.sets, api.Look{State: back.State, Prod: back.Prod, Terms: terms})
	}
	return s, true
}

// handedOn are of each node its own numbers and those of all to which a relation leads, the least such lists.
func handedOn(own, relation [][]int) [][]int {
	lists := make([][]int, len(own))
	for i := range own {
		lists[i] = slices.Clone(own[i])
	}
	for more := true; more; {
		more = false
		for from, tos := range relation {
			for _, to := range tos {
				for _, term := range lists[to] {
					if !slices.Contains(lists[from], term) {
						lists[from] = append(lists[from], term)
						more = true
					}
				}
			}
		}
	}
	for _, list := range lists {
		slices.Sort(list)
	}
	return lists
}

// wantAsSaid wants of a grammar the lists that the document tells; how many terminals the lists of Reading, of Following and of Sets have in all, none: ErrTooBig.
func wantAsSaid(t *testing.T, g api.Grammar) (reading, following, sets int) {
	t.Helper()
	s, ok := saidOf(g)
	if !ok {
		wantError(t, "too many states", g, api.ErrTooBig)
		return 0, 0, 0
	}
	wantReading(t, g, toldLists(s.reading))
	wantFollowing(t, g, toldLists(s.following))
	wantSets(t, g, toldLooks(s.sets))
	for _, one := range s.sets {
		sets += len(one.Terms)
	}
	return len(slices.Concat(s.reading...)), len(slices.Concat(s.following...)), sets
}

// P13.1 to P13.3

func TestManyLists(t *testing.T) {
	read, followed, many, tooBig := 0, 0, 0, 0
	manyGrammars(t, 1200, func(r func(int) int, g api.Grammar) {
		reading, following, sets := wantAsSaid(t, g)
		if reading > 20 {
			read++
		}
		if following > reading {
			followed++
		}
		if sets > 100 {
			many++
		}
		if following == 0 {
			tooBig++
		}
	})
	if read < 200 || followed < 500 || many < 50 || tooBig < 20 {
		t.Errorf("%d grammars have more than 20 terminals in Reading, %d more in Following, %d more than 100 in Sets, %d too many states", read, followed, many, tooBig)
	}
}

func TestSmallGrammars(t *testing.T) {
	count := 0
	allSmallGrammars(func(g api.Grammar) {
		count++
		wantAsSaid(t, g)
	})
	if count != 7+49+343+2*(2*169+6*2197) {
		t.Errorf("%d small grammars", count)
	}
}

// rises tells whether terminals rise, each once.
func rises(terms []int, g api.Grammar) bool {
	for i, term := range terms {
		if term < 0 || term >= len(g.Terms) || i > 0 && term <= terms[i-1] {
			return false
		}
	}
	return true
}

func TestListsRise(t *testing.T) {
	manyGrammars(t, 900, func(r func(int) int, g api.Grammar) {
		list, err := trans.List(g)
		if err != api.OK {
			return
		}
		reading, _ := look.Reading(g)
		following, _ := look.Following(g)
		sets, _ := look.Sets(g)
		if len(reading) != len(list) || len(following) != len(list) {
			t.Fatalf("%v has %d transitions, but %d and %d lists", g, len(list), len(reading), len(following))
		}
		all := slices.Concat(reading, following)
		for _, one := range sets {
			all = append(all, one.Terms)
		}
		for _, terms := range all {
			if !rises(terms, g) {
				t.Errorf("%v: %v is no list of terminals", g, terms)
			}
		}
	})
}

// P13.4: the lookaheads are reckoned twice more, neither time by transitions: by what states hold, and by the canonical collection.

// marked is an item with a terminal; held says that a state holds it.
type marked struct {
	item api.Item
	term int
}

type held struct {
	state int
	marked
}

// reckoner knows a grammar, its states, and what rows begin with.
type reckoner struct {
	grammar api.Grammar
	states  []api.State
	begins  map[api.Item][]int // by production and place: the terminals that rows derived from there on begin with
	ends    map[api.Item]int   // 1: from there on the empty row is derived
}

// reckonerOf is that of a grammar; false: it has too many states.
func reckonerOf(g api.Grammar) (reckoner, bool) {
	a, err := lr0.Build(g)
	if err != api.OK {
		return reckoner{}, false
	}
	r := reckoner{grammar: g, states: a.States, begins: map[api.Item][]int{}, ends: map[api.Item]int{}}
	for prod, p := range g.Prods {
		for at := range len(p.Right) + 1 {
			terms, vanishes, _ := first.Row(g, p.Right[at:]...)
			r.begins[api.Item{Prod: prod, Dot: at}] = terms
			if vanishes {
				r.ends[api.Item{Prod: prod, Dot: at}] = 1
			}
		}
	}
	return r, true
}

// ahead is the symbol ahead of which an item's Dot stands; -1: none.
func (r reckoner) ahead(item api.Item) int {
	if right := r.grammar.Prods[item.Prod].Right; item.Dot < len(right) {
		return right[item.Dot]
	}
	return -1
}

// begun hands out what stands beside an item with a terminal: the productions of the nonterminal ahead of its Dot, each with each terminal that may stand behind it.
func (r reckoner) begun(one marked, hand func(marked)) {
	sym := r.ahead(one.item)
	if sym < len(r.grammar.Terms) {
		return
	}
	behind := api.Item{Prod: one.item.Prod, Dot: one.item.Dot + 1}
	terms := slices.Clone(r.begins[behind])
	if r.ends[behind] == 1 {
		terms = append(terms, one.term)
	}
	for prod, p := range r.grammar.Prods {
		for _, term := range terms {
			if p.Left == sym {
				hand(marked{api.Item{Prod: prod}, term})
			}
		}
	}
}

func (r reckoner) next(one marked) marked {
	return marked{api.Item{Prod: one.item.Prod, Dot: one.item.Dot + 1}, one.term}
}

func (r reckoner) edge(state, sym int) int {
	at := slices.IndexFunc(r.states[state].Edges, func(edge api.Edge) bool { return edge.Sym == sym })
	return r.states[state].Edges[at].To
}

// holds is the document's relation of that name.
func (r reckoner) holds() map[held]int {
	all := []held{{}}
	known := map[held]int{{}: 1}
	hold := func(one held) {
		if known[one] == 0 {
			known[one] = 1
			all = append(all, one)
		}
	}
	for i := 0; i < len(all); i++ {
		one := all[i]
		r.begun(one.marked, func(m marked) { hold(held{one.state, m}) })
		if sym := r.ahead(one.item); sym >= 0 {
			hold(held{r.edge(one.state, sym), r.next(one.marked)})
		}
	}
	return known
}

// looks are the lookaheads that states hold.
func (r reckoner) looks(holds map[held]int) []api.Look {
	var looks []api.Look
	for state, s := range r.states {
		closure, _ := lr0.Closure(r.grammar, s.Kernel...)
		for _, item := range closure {
			if item.Prod == 0 || r.ahead(item) >= 0 {
				continue
			}
			one := api.Look{State: state, Prod: item.Prod}
			for term := range r.grammar.Terms {
				if holds[held{state, marked{item, term}}] == 1 {
					one.Terms = append(one.Terms, term)
				}
			}
			looks = append(looks, one)
		}
	}
	return looks
}

// followed are of each transition the terminals with which its state holds the nonterminal's productions, not yet begun: those that may stand behind the nonterminal there.
func (r reckoner) followed(holds map[held]int) [][]int {
	transitions, _ := trans.List(r.grammar)
	lists := make([][]int, len(transitions))
	for number, one := range transitions {
		prod := slices.IndexFunc(r.grammar.Prods, func(p api.Prod) bool { return p.Left == one.Sym })
		for term := range r.grammar.Terms {
			if holds[held{one.State, marked{api.Item{Prod: prod}, term}}] == 1 {
				lists[number] = append(lists[number], term)
			}
		}
	}
	return lists
}

// full is a canonical state: a kernel's items with terminals, and all that these bring along.
func (r reckoner) full(kernel []marked) []marked {
	all := slices.Clone(kernel)
	known := map[marked]int{}
	for _, one := range all {
		known[one] = 1
	}
	for i := 0; i < len(all); i++ {
		r.begun(all[i], func(one marked) {
			if known[one] == 0 {
				known[one] = 1
				all = append(all, one)
			}
		})
	}
	slices.SortFunc(all, func(a, b marked) int {
		return slices.Compare([]int{a.item.Prod, a.item.Dot, a.term}, []int{b.item.Prod, b.item.Dot, b.term})
	})
	return all
}

// toldMarked is a canonical state as a text.
func toldMarked(state []marked) string {
	text := ""
	for _, one := range state {
		text += told([]int{one.item.Prod, one.item.Dot, one.term}) + "/"
	}
	return text
}

// canonical are the states of the canonical LR(1) collection; false: they are very many.
func (r reckoner) canonical() ([][]marked, bool) {
	states := [][]marked{r.full([]marked{{}})}
	known := map[string]int{toldMarked(states[0]): 1}
	for from := 0; from < len(states); from++ {
		for sym := 1; sym < len(r.grammar.Terms)+len(r.grammar.Nons); sym++ {
			var kernel []marked
			for _, one := range states[from] {
				if r.ahead(one.item) == sym {
					kernel = append(kernel, r.next(one))
				}
			}
			state := r.full(kernel)
			if name := toldMarked(state); len(state) > 0 && known[name] == 0 {
				known[name] = 1
				states = append(states, state)
			}
		}
		if len(states) > 2000 {
			return nil, false
		}
	}
	return states, true
}

// core is a canonical state's items, each once, as a text.
func core(state []marked) string {
	var items []api.Item
	for _, one := range state {
		items = append(items, one.item)
	}
	return toldItems(slices.Compact(items))
}

func toldItems(items []api.Item) string {
	text := ""
	for _, item := range items {
		text += told([]int{item.Prod, item.Dot}) + "/"
	}
	return text
}

// merged are what the states of the collection hold, told by the states whose items theirs are; how many unlike ones there are.
func (r reckoner) merged(t *testing.T, collection [][]marked) (map[held]int, int) {
	t.Helper()
	numbers := map[string]int{}
	for state, s := range r.states {
		closure, _ := lr0.Closure(r.grammar, s.Kernel...)
		numbers[toldItems(closure)] = state
	}
	holds := map[held]int{}
	cores := map[string]int{}
	for _, state := range collection {
		number, there := numbers[core(state)]
		if !there {
			t.Errorf("%v: no state has the items %s", r.grammar, core(state))
		}
		cores[core(state)] = 1
		for _, one := range state {
			holds[held{number, one}] = 1
		}
	}
	return holds, len(cores)
}

// wantSame wants the lookaheads, and what follows, of states that hold that.
func (r reckoner) wantSame(t *testing.T, holds map[held]int) {
	t.Helper()
	wantSets(t, r.grammar, toldLooks(r.looks(holds)))
	wantFollowing(t, r.grammar, toldLists(r.followed(holds)))
}

// wantMerged wants what the canonical collection tells; false: it is very great.
func (r reckoner) wantMerged(t *testing.T) bool {
	t.Helper()
	collection, ok := r.canonical()
	if ok {
		holds, cores := r.merged(t, collection)
		if cores != len(r.states) {
			t.Errorf("%v has %d states, and %d unlike cores", r.grammar, len(r.states), cores)
		}
		r.wantSame(t, holds)
	}
	return ok
}

// wantAtLeast wants that no lookahead is missed that states hold.
//
// What stands ahead of a nonterminal that derives no row of terminals is perhaps not held with any terminal; the automaton, and so the relations, know nothing of it, and P13.1 to P13.3 may find more.
func (r reckoner) wantAtLeast(t *testing.T, holds map[held]int) (more bool) {
	t.Helper()
	sets, err := look.Sets(r.grammar)
	want := r.looks(holds)
	if err != api.OK || len(sets) != len(want) {
		t.Fatalf("%v has %d completed productions, %d; want %d", r.grammar, len(sets), err, len(want))
	}
	for i, one := range want {
		for _, term := range one.Terms {
			if !slices.Contains(sets[i].Terms, term) {
				t.Errorf("%v: production %d has not %d in state %d", r.grammar, one.Prod, term, one.State)
			}
		}
		more = more || len(sets[i].Terms) > len(one.Terms)
	}
	return more
}

// wantLookaheads wants all that P13.4 says of a grammar; whether all its nonterminals are useful, and how many completed productions it has.
func wantLookaheads(t *testing.T, g api.Grammar) (useful bool, completed int) {
	t.Helper()
	r, ok := reckonerOf(g)
	if !ok {
		return false, 0
	}
	holds := r.holds()
	if productive, _ := reach.Productive(g); slices.Contains(productive, false) {
		r.wantAtLeast(t, holds)
		return false, 0
	}
	r.wantSame(t, holds)
	// All of them are useful where none is out of reach.
	if marks, _ := reach.Useful(g); slices.Contains(marks, false) {
		return false, 0
	}
	return r.wantMerged(t), len(r.looks(holds))
}

func TestTheLookaheads(t *testing.T) {
	useful, many := 0, 0
	for seed := range uint64(4000) {
		r := source(seed)
		is, completed := wantLookaheads(t, someClosed(r, 4, 5, 4+int(seed%2)*3, 2+r(5)))
		if is {
			useful++
		}
		if is && completed > 12 {
			many++
		}
	}
	if useful < 600 || many < 60 {
		t.Errorf("%d grammars have useful nonterminals alone, %d of them more than 12 completed productions", useful, many)
	}
}

func TestTheLookaheadsOfSmallGrammars(t *testing.T) {
	useful := 0
	allSmallGrammars(func(g api.Grammar) {
		if is, _ := wantLookaheads(t, g); is {
			useful++
		}
	})
	if useful < 4000 {
		t.Errorf("%d small grammars have useful nonterminals alone", useful)
	}
}

func TestTheLookaheadsOfTexts(t *testing.T) {
	for _, text := range []string{
		around,
		apart,
		nested,
		"%left '+'; %left '*'; e : e '+' e | e '*' e | n ;",
		"e : e '+' t | t ; t : t '*' f | f ; f : '(' e ')' | n ;",
		"s : a 'x' | 'y' a 'z' | b 'z' | 'y' b 'x' ; a : 'w' ; b : 'w' ;",
		"s : a a a a | ; a : b | 'x' ; b : | 'y' s ;",
		"s : c c ; c : 'x' c | 'y' ;",
		"s : 'i' s | 'i' s 'e' s | 'o' ;",
		"s : 'x' a 'y' | 'x' b 'z' ; a : c ; b : c ; c : d ; d : | 'w' d ;",
	} {
		g, err := reach.Reduce(read(t, text))
		if err != api.OK {
			t.Fatalf("Reduce of %s answers %d", text, err)
		}
		if useful, _ := wantLookaheads(t, g); !useful {
			t.Errorf("%s is not looked at", text)
		}
	}
}

// Of two ways to tell of what derives no row of terminals, P13.3's own words hold: x stands right behind a, though nothing is ever held ahead of s.
func TestWhereNothingIsHeld(t *testing.T) {
	r, ok := reckonerOf(readClosed(t, "s : a s ; a : a 'x' ;"))
	if !ok || !r.wantAtLeast(t, r.holds()) {
		t.Errorf("the lists have no more than is held, %v", ok)
	}
}

// R4

func TestAskedAgainItIsTheSame(t *testing.T) {
	manyGrammars(t, 300, func(r func(int) int, g api.Grammar) {
		again := gram.Copy(g)
		for i := range again.Terms {
			again.Terms[i].Level = 0
		}
		again.Levels = nil
		readingA, errA := look.Reading(g)
		readingB, errB := look.Reading(again)
		followingA, _ := look.Following(g)
		followingB, _ := look.Following(again)
		setsA, _ := look.Sets(g)
		setsB, _ := look.Sets(again)
		if errA != errB || toldLists(readingA) != toldLists(readingB) || toldLists(followingA) != toldLists(followingB) || toldLooks(setsA) != toldLooks(setsB) {
			t.Errorf("%v has other lists without levels", g)
		}
	})
}
