package table_test

import (
	"slices"
	"strconv"
	"strings"
	"testing"

	"presage/api"
	"presage/first"
	"presage/gram"
	"presage/look"
	"presage/lr0"
	"presage/reach"
	"presage/table"
)

// source gives numbers below n that hang on the seed alone.
func source(seed uint64) func(n int) int {
	state := seed*2 + 1
	return func(n int) int {
		state = state*6364136223846793005 + 1442695040888963407
		return int(state>>33) % n
	}
}

// someClosed is a closed grammar of at most so many terminals, nonterminals, and symbols in a row. One of so many of its productions has no symbols.
func someClosed(r func(int) int, terms, nons, length, empty int) api.Grammar {
	g := api.Grammar{Terms: []api.Term{{}}, Nons: []string{""}}
	for i := range r(terms + 1) {
		g.Levels = append(g.Levels, 1+r(3))
		g.Terms = append(g.Terms, api.Term{Name: "t" + strconv.Itoa(i), Level: i + 1})
	}
	g.Prods = []api.Prod{{Left: len(g.Terms)}}
	for i := range 1 + r(nons) {
		g.Nons = append(g.Nons, "n"+strconv.Itoa(i))
		g.Prods = append(g.Prods, api.Prod{Left: len(g.Terms) + 1 + i})
		for range r(2) {
			g.Prods = append(g.Prods, api.Prod{Left: len(g.Terms) + 1 + r(i+1)})
		}
	}
	for i := range g.Prods {
		if r(empty) > 0 {
			g.Prods[i].Right = someRow(r, g, length)
		}
	}
	g.Start = len(g.Terms) + 1 + r(len(g.Nons)-1)
	g.Prods[0].Right = []int{g.Start}
	shuffle(r, g.Prods[1:])
	return g
}

// someRow is a row of at most so many symbols, terminals and nonterminals.
func someRow(r func(int) int, g api.Grammar, length int) []int {
	var row []int
	for range r(length + 1) {
		sym := len(g.Terms) + 1 + r(len(g.Nons)-1)
		if len(g.Terms) > 1 && r(2) == 0 {
			sym = 1 + r(len(g.Terms)-1)
		}
		row = append(row, sym)
	}
	return row
}

func shuffle[T any](r func(int) int, list []T) {
	for i := range list {
		j := i + r(len(list)-i)
		list[i], list[j] = list[j], list[i]
	}
}

// manyGrammars are so many closed grammars of all sizes: of few states, of many, and of too many; of few that vanish, and of many.
func manyGrammars(t *testing.T, count uint64, each func(r func(int) int, g api.Grammar)) {
	t.Helper()
	for seed := range count {
		r := source(seed)
		empty := 2 + r(8)
		var g api.Grammar
		switch seed % 6 {
		case 0:
			g = someClosed(r, 3, 5, 3, empty)
		case 1:
			g = someClosed(r, 1, 3, 5, empty)
		case 2:
			g = someClosed(r, 2, 6, 12, empty)
		case 3:
			g = someClosed(r, 3, 12, 24, empty)
		case 4:
			g = someClosed(r, 12, 48, 4, empty)
		case 5:
			g = someClosed(r, 12, 48, 12, empty)
		}
		if !gram.Closed(g) {
			t.Fatalf("%v is not closed", g)
		}
		each(r, g)
	}
}

// smallGrammars are all closed grammars of one terminal, with productions of these nonterminals (by their numbers among these) and at most two symbols, from each start symbol.
func smallGrammars(each func(g api.Grammar), lefts ...int) {
	g := api.Grammar{Terms: []api.Term{{}, {Name: "x"}}, Nons: []string{""}, Prods: make([]api.Prod, 1+len(lefts))}
	for i := range slices.Max(lefts) + 1 {
		g.Nons = append(g.Nons, "n"+strconv.Itoa(i))
	}
	rows := rowsOf(2+len(g.Nons), 2)
	var fill func(i int)
	fill = func(i int) {
		if i < len(lefts) {
			for _, row := range rows {
				g.Prods[1+i] = api.Prod{Left: 3 + lefts[i], Right: row}
				fill(i + 1)
			}
			return
		}
		for start := range g.Nons[1:] {
			g.Start = 3 + start
			g.Prods[0] = api.Prod{Left: 2, Right: []int{g.Start}}
			each(g)
		}
	}
	fill(0)
}

// rowsOf are the rows of at most two symbols below n, the end marker and the added one not.
func rowsOf(n, added int) [][]int {
	rows := [][]int{nil}
	for a := 1; a < n; a++ {
		if a == added {
			continue
		}
		rows = append(rows, []int{a})
		for b := 1; b < n; b++ {
			if b != added {
				rows = append(rows, []int{a, b})
			}
		}
	}
	return rows
}

// allSmallGrammars are those of one or two nonterminals and at most three productions, in all orders of these.
func allSmallGrammars(each func(g api.Grammar)) {
	for _, lefts := range [][]int{{0}, {0, 0}, {0, 0, 0}, {0, 1}, {1, 0}, {0, 0, 1}, {0, 1, 0}, {1, 0, 0}, {0, 1, 1}, {1, 0, 1}, {1, 1, 0}} {
		smallGrammars(each, lefts...)
	}
}

// P14.1 to P14.3, said a second time

// said is the document's table, cell by cell: of each state and each terminal its actions, perhaps none; false: there are too many states.
func said(g api.Grammar) (rows [][]string, ok bool) {
	a, err := lr0.Build(g)
	if err != api.OK {
		return nil, false
	}
	looks, _ := look.Sets(g)
	for state, s := range a.States {
		closure, _ := lr0.Closure(g, s.Kernel...)
		row := make([]string, len(g.Terms))
		for term := range g.Terms {
			row[term] = told(saidOfCell(g, s, closure, looks, state, term))
		}
		rows = append(rows, row)
	}
	return rows, true
}

// saidOfCell are the actions of one cell: that of the state's edge, then what is completed in its closure, item by item.
func saidOfCell(g api.Grammar, s api.State, closure []api.Item, looks []api.Look, state, term int) []api.Action {
	var actions []api.Action
	for _, edge := range s.Edges {
		if edge.Sym == term {
			actions = append(actions, api.Action{Kind: api.Shift, To: edge.To})
		}
	}
	for _, item := range closure {
		if item.Dot < len(g.Prods[item.Prod].Right) {
			continue
		}
		if item.Prod == 0 && term == 0 {
			actions = append(actions, api.Action{Kind: api.Accept})
		}
		if slices.ContainsFunc(looks, func(one api.Look) bool {
			return one.State == state && one.Prod == item.Prod && slices.Contains(one.Terms, term)
		}) {
			actions = append(actions, api.Action{Kind: api.Reduce, To: item.Prod})
		}
	}
	return actions
}

// cellsOf are of a table's rows the cells with so many actions at least, each as a text.
func cellsOf(rows [][]string, least int) []string {
	var words []string
	for state, row := range rows {
		for term, actions := range row {
			if len(strings.Fields(actions)) >= least {
				words = append(words, toldCell(state, term, actions))
			}
		}
	}
	return words
}

// wantRows wants that the cells are those of a table's rows; how many of them clash.
func wantRows(t *testing.T, g api.Grammar, rows [][]string) (clashes int) {
	t.Helper()
	clashing := cellsOf(rows, 2)
	wantMerged(t, g, strings.Join(cellsOf(rows, 1), "/"))
	wantClashes(t, g, strings.Join(clashing, "/"))
	return len(clashing)
}

// wantAsSaid wants of a grammar the table that the document tells; how many states it has, none: ErrTooBig; and how many clashes.
func wantAsSaid(t *testing.T, g api.Grammar) (states, clashes int) {
	t.Helper()
	rows, ok := said(g)
	if !ok {
		wantError(t, "too many states", g, api.ErrTooBig)
		return 0, 0
	}
	return len(rows), wantRows(t, g, rows)
}

func TestManyTables(t *testing.T) {
	many, clashing, smooth, tooBig := 0, 0, 0, 0
	manyGrammars(t, 1200, func(r func(int) int, g api.Grammar) {
		states, clashes := wantAsSaid(t, g)
		switch {
		case states == 0:
			tooBig++
		case clashes == 0:
			smooth++
		case clashes > 20:
			clashing++
		}
		if states > 60 {
			many++
		}
	})
	if many < 150 || clashing < 50 || smooth < 400 || tooBig < 20 {
		t.Errorf("%d grammars have more than 60 states, %d more than 20 clashes, %d none, %d too many states", many, clashing, smooth, tooBig)
	}
}

func TestSmallGrammars(t *testing.T) {
	count := 0
	allSmallGrammars(func(g api.Grammar) {
		count++
		wantAsSaid(t, g)
	})
	if count != 7+49+343+2*(2*169+6*2197) {
		t.Errorf("%d small grammars", count)
	}
}

// Action asks for the whole table anew at each cell: so it is asked of some grammars alone, but there of all cells, and of some places around.
func TestActionOfAllCells(t *testing.T) {
	manyGrammars(t, 240, func(r func(int) int, g api.Grammar) {
		rows, ok := said(g)
		if !ok || len(rows)*len(g.Terms) > 80 {
			return
		}
		for state, row := range rows {
			for term, want := range row {
				wantAction(t, g, state, term, want)
			}
			wantNoAction(t, g, state, len(g.Terms), api.ErrArg)
			wantNoAction(t, g, state, -1, api.ErrArg)
		}
		for term := range g.Terms {
			wantNoAction(t, g, len(rows), term, api.ErrArg)
			wantNoAction(t, g, -1, term, api.ErrArg)
		}
	})
}

// P14.4

// rank tells where a kind of action stands in a cell.
func rank(action api.Action) int {
	return slices.Index([]int{api.Shift, api.Accept, api.Reduce}, action.Kind)
}

// isInOrder tells whether actions are at most one shift, then at most one Accept, then reductions by rising productions but the added one.
func isInOrder(g api.Grammar, actions []api.Action) bool {
	for i, action := range actions {
		if rank(action) < 0 || action.Kind == api.Reduce && (action.To < 1 || action.To >= len(g.Prods)) {
			return false
		}
		if i == 0 {
			continue
		}
		before := actions[i-1]
		if rank(before) > rank(action) || rank(before) == rank(action) && (action.Kind != api.Reduce || before.To >= action.To) {
			return false
		}
	}
	return len(actions) > 0
}

// wantAllShifts wants that each edge by a terminal is the shift of one cell, and that no cell has another one.
func wantAllShifts(t *testing.T, g api.Grammar, list []api.Cell, states []api.State) {
	t.Helper()
	var edges, shifts []string
	for from, state := range states {
		for _, edge := range state.Edges {
			if edge.Sym < len(g.Terms) {
				edges = append(edges, toldCell(from, edge.Sym, shift(edge.To)))
			}
		}
	}
	for _, one := range list {
		for _, action := range one.Actions {
			if action.Kind == api.Shift {
				shifts = append(shifts, toldCell(one.State, one.Term, toldAction(action)))
			}
		}
	}
	if !slices.Equal(edges, shifts) {
		t.Errorf("the edges of %v are %v, the shifts %v", g, edges, shifts)
	}
}

// wantOneAccept wants that the state behind state 0 by the start symbol accepts at the end marker, and that no other cell does.
func wantOneAccept(t *testing.T, g api.Grammar, list []api.Cell, states []api.State) {
	t.Helper()
	at := slices.IndexFunc(states[0].Edges, func(edge api.Edge) bool { return edge.Sym == g.Start })
	want := toldCell(states[0].Edges[at].To, 0, "a")
	var accepts []string
	for _, one := range list {
		for _, action := range one.Actions {
			if action.Kind == api.Accept {
				accepts = append(accepts, toldCell(one.State, one.Term, toldAction(action)))
			}
		}
	}
	if !slices.Equal(accepts, []string{want}) {
		t.Errorf("%v accepts at %v; want %s alone", g, accepts, want)
	}
}

func TestWhatFollows(t *testing.T) {
	most := 0
	manyGrammars(t, 1200, func(r func(int) int, g api.Grammar) {
		a, err := lr0.Build(g)
		if err != api.OK {
			return
		}
		list, _ := table.Merged(g)
		wantAllShifts(t, g, list, a.States)
		wantOneAccept(t, g, list, a.States)
		for i, one := range list {
			if !isInOrder(g, one.Actions) {
				t.Errorf("%v has the actions %s in a cell", g, told(one.Actions))
			}
			if i > 0 && (list[i-1].State > one.State || list[i-1].State == one.State && list[i-1].Term >= one.Term) {
				t.Errorf("%v has the cell %d %d behind %d %d", g, one.State, one.Term, list[i-1].State, list[i-1].Term)
			}
			most = max(most, len(one.Actions))
		}
	})
	if most < 6 {
		t.Errorf("no cell has more than %d actions", most)
	}
}

// P14.1 again, without layer 13: where all nonterminals are useful, the table is that of the canonical LR(1) collection, its states merged.

// marked is an item with a terminal.
type marked struct {
	item api.Item
	term int
}

// collection is the canonical one of a grammar, its states by their kernels.
type collection struct {
	grammar api.Grammar
	states  [][]marked
	numbers map[string]int // by kernels, as texts
	cores   map[string]int // by cores, as texts: the states of the automaton
}

// next is the symbol ahead of which an item's Dot stands; -1: none.
func (c *collection) next(item api.Item) int {
	if right := c.grammar.Prods[item.Prod].Right; item.Dot < len(right) {
		return right[item.Dot]
	}
	return -1
}

// full are marked items, and all that these bring along, in order.
func (c *collection) full(kernel []marked) []marked {
	all := slices.Clone(kernel)
	for i := 0; i < len(all); i++ {
		one := all[i]
		sym := c.next(one.item)
		if sym < len(c.grammar.Terms) {
			continue
		}
		terms, vanishes, _ := first.Row(c.grammar, c.grammar.Prods[one.item.Prod].Right[one.item.Dot+1:]...)
		if vanishes {
			terms = append(terms, one.term)
		}
		for prod, p := range c.grammar.Prods {
			for _, term := range terms {
				if begun := (marked{api.Item{Prod: prod}, term}); p.Left == sym && !slices.Contains(all, begun) {
					all = append(all, begun)
				}
			}
		}
	}
	slices.SortFunc(all, func(a, b marked) int {
		return slices.Compare([]int{a.item.Prod, a.item.Dot, a.term}, []int{b.item.Prod, b.item.Dot, b.term})
	})
	return all
}

// number is that of the state with a kernel, a new one if there is none.
func (c *collection) number(kernel []marked) int {
	state := c.full(kernel)
	name := ""
	for _, one := range state {
		name += toldItem(one.item) + strconv.Itoa(one.term) + "/"
	}
	number, there := c.numbers[name]
	if !there {
		number = len(c.states)
		c.numbers[name] = number
		c.states = append(c.states, state)
	}
	return number
}

func toldItem(item api.Item) string {
	return strconv.Itoa(item.Prod) + "." + strconv.Itoa(item.Dot) + " "
}

// core is a canonical state's items, each once, as a text.
func core(state []marked) string {
	text, last := "", api.Item{Prod: -1}
	for _, one := range state {
		if one.item != last {
			text += toldItem(one.item)
		}
		last = one.item
	}
	return text
}

// behind is the kernel behind a symbol.
func (c *collection) behind(state, sym int) []marked {
	var kernel []marked
	for _, one := range c.states[state] {
		if c.next(one.item) == sym {
			kernel = append(kernel, marked{api.Item{Prod: one.item.Prod, Dot: one.item.Dot + 1}, one.term})
		}
	}
	return kernel
}

// collectionOf is that of a grammar with this automaton; false: it has very many states.
func collectionOf(g api.Grammar, a api.Automaton) (*collection, bool) {
	c := &collection{grammar: g, numbers: map[string]int{}, cores: map[string]int{}}
	for number, state := range a.States {
		closure, _ := lr0.Closure(g, state.Kernel...)
		text := ""
		for _, item := range closure {
			text += toldItem(item)
		}
		c.cores[text] = number
	}
	c.number([]marked{{}})
	for from := 0; from < len(c.states); from++ {
		for sym := range len(g.Terms) + len(g.Nons) {
			if kernel := c.behind(from, sym); len(kernel) > 0 {
				c.number(kernel)
			}
		}
		if len(c.states) > 400 {
			return nil, false
		}
	}
	return c, true
}

// rows are the cells of all canonical states, merged by the automaton's states whose items they have.
func (c *collection) rows() [][]string {
	cells := make([][][]api.Action, len(c.cores))
	for i := range cells {
		cells[i] = make([][]api.Action, len(c.grammar.Terms))
	}
	for from, state := range c.states {
		row := cells[c.cores[core(state)]]
		for _, one := range state {
			term, action := c.says(from, one)
			if action.Kind != api.None && !slices.Contains(row[term], action) {
				row[term] = append(row[term], action)
			}
		}
	}
	rows := make([][]string, len(cells))
	for i, row := range cells {
		for _, actions := range row {
			slices.SortFunc(actions, func(a, b api.Action) int { return slices.Compare([]int{rank(a), a.To}, []int{rank(b), b.To}) })
			rows[i] = append(rows[i], told(actions))
		}
	}
	return rows
}

// says is what a canonical state does by one of its items.
func (c *collection) says(from int, one marked) (term int, action api.Action) {
	switch sym := c.next(one.item); {
	case sym >= len(c.grammar.Terms):
		return 0, api.Action{}
	case sym >= 0:
		to := c.states[c.number(c.behind(from, sym))]
		return sym, api.Action{Kind: api.Shift, To: c.cores[core(to)]}
	case one.item.Prod == 0:
		return one.term, api.Action{Kind: api.Accept}
	}
	return one.term, api.Action{Kind: api.Reduce, To: one.item.Prod}
}

// allUseful tells whether all nonterminals of a closed grammar are useful.
func allUseful(g api.Grammar) bool {
	useful, _ := reach.Useful(g)
	return !slices.Contains(useful, false)
}

// wantMergedCollection wants the cells that the canonical collection tells; whether they were looked at, and how many clashes there are.
func wantMergedCollection(t *testing.T, g api.Grammar) (looked bool, clashes int) {
	t.Helper()
	a, err := lr0.Build(g)
	if err != api.OK || !allUseful(g) {
		return false, 0
	}
	c, ok := collectionOf(g, a)
	if !ok {
		return false, 0
	}
	return true, wantRows(t, g, c.rows())
}

func TestTheCanonicalCollectionMerged(t *testing.T) {
	looked, clashing := 0, 0
	for seed := range uint64(3000) {
		r := source(seed)
		is, clashes := wantMergedCollection(t, someClosed(r, 4, 5, 4+int(seed%2)*2, 2+r(5)))
		if is {
			looked++
		}
		if clashes > 0 {
			clashing++
		}
	}
	if looked < 400 || clashing < 100 || clashing > looked-100 {
		t.Errorf("%d grammars were looked at, %d of them clash", looked, clashing)
	}
}

func TestTheCanonicalCollectionOfTextsMerged(t *testing.T) {
	for _, text := range []string{oneSided, twoSided, apart, mixed, loose, sums, tangled,
		"e : e '+' t | t ; t : t '*' f | f ; f : '(' e ')' | n ;",
		"s : c c ; c : 'x' c | 'y' ;",
		"s : a a a a | ; a : b | 'x' ; b : | 'y' s ;",
		"s : 'x' a 'y' | 'x' b 'z' ; a : c ; b : c ; c : d ; d : | 'w' d ;",
	} {
		if looked, _ := wantMergedCollection(t, readClosed(t, text)); !looked {
			t.Errorf("%s is not looked at", text)
		}
	}
}

// What the table is for: without a clash, it accepts the sentences alone.

// sentences are all rows of at most so many terminals that each symbol derives, as texts with a byte a terminal.
func sentences(g api.Grammar, length int) []map[string]int {
	all := make([]map[string]int, len(g.Terms)+len(g.Nons))
	for sym := range all {
		all[sym] = map[string]int{}
		if sym < len(g.Terms) {
			all[sym][string(rune('a'+sym))] = 1
		}
	}
	for more := true; more; {
		more = false
		for _, p := range g.Prods {
			for _, row := range joined(all, length, p.Right) {
				if all[p.Left][row] == 0 {
					all[p.Left][row] = 1
					more = true
				}
			}
		}
	}
	return all
}

// joined are the rows that come of those of some symbols, one behind the other.
func joined(all []map[string]int, length int, syms []int) []string {
	rows := []string{""}
	for _, sym := range syms {
		longer := map[string]int{}
		for _, begin := range rows {
			for end := range all[sym] {
				if len(begin)+len(end) <= length {
					longer[begin+end] = 1
				}
			}
		}
		rows = rows[:0]
		for row := range longer {
			rows = append(rows, row)
		}
	}
	return rows
}

// driven goes by cells with one action each: it shifts and reduces the row's terminals till it accepts, or refuses.
func driven(t *testing.T, g api.Grammar, states []api.State, cells map[[2]int]api.Action, row string) bool {
	t.Helper()
	stack, at := []int{0}, 0
	for range 1000 {
		term := 0
		if at < len(row) {
			term = int(row[at] - 'a')
		}
		action := cells[[2]int{stack[len(stack)-1], term}]
		switch action.Kind {
		case api.Shift:
			stack = append(stack, action.To)
			at++
		case api.Reduce:
			p := g.Prods[action.To]
			stack = stack[:len(stack)-len(p.Right)]
			edges := states[stack[len(stack)-1]].Edges
			to := slices.IndexFunc(edges, func(edge api.Edge) bool { return edge.Sym == p.Left })
			stack = append(stack, edges[to].To)
		default:
			return action.Kind == api.Accept
		}
	}
	t.Errorf("%v: %q has no end", g, row)
	return false
}

// eachRow hands out all rows of at most so many terminals.
func eachRow(terms, length int, each func(row string)) {
	rows := []string{""}
	for i := 0; i < len(rows); i++ {
		each(rows[i])
		for term := 1; term < terms && len(rows[i]) < length; term++ {
			rows = append(rows, rows[i]+string(rune('a'+term)))
		}
	}
}

// wantItsLanguage wants of a grammar without clashes, all of whose nonterminals are useful, that just its sentences are accepted; how many sentences there were.
func wantItsLanguage(t *testing.T, g api.Grammar, length int) (accepted int) {
	t.Helper()
	a, err := lr0.Build(g)
	clashes, _ := table.Clashes(g)
	if err != api.OK || len(clashes) > 0 || !allUseful(g) {
		return 0
	}
	list, _ := table.Merged(g)
	cells := map[[2]int]api.Action{}
	for _, one := range list {
		cells[[2]int{one.State, one.Term}] = one.Actions[0]
	}
	language := sentences(g, length)[g.Start]
	eachRow(len(g.Terms), length, func(row string) {
		if is := driven(t, g, a.States, cells, row); is != (language[row] == 1) {
			t.Errorf("%v: that %q is accepted is %v", g, row, is)
		}
	})
	return len(language)
}

func TestTheLanguage(t *testing.T) {
	smooth, rich := 0, 0
	for seed := range uint64(20000) {
		r := source(seed)
		accepted := wantItsLanguage(t, someClosed(r, 3, 4, 4, 3+r(5)), 5)
		if accepted > 0 {
			smooth++
		}
		if accepted > 3 {
			rich++
		}
	}
	if smooth < 1500 || rich < 150 {
		t.Errorf("%d grammars have no clash, %d of them more than three short sentences", smooth, rich)
	}
}

func TestTheLanguageOfTexts(t *testing.T) {
	for _, text := range []string{oneSided, apart,
		"e : e '+' t | t ; t : t '*' f | f ; f : '(' e ')' | n ;",
		"s : c c ; c : 'x' c | 'y' ;",
		"s : 'x' a 'y' | 'x' b 'z' ; a : c ; b : d 'x' ; c : d ; d : | 'w' d ;",
		"s : a 'x' s | 'y' ; a : b c ; b : | 'z' ; c : | 'w' ;",
	} {
		if wantItsLanguage(t, readClosed(t, text), 6) < 3 {
			t.Errorf("%s is not looked at", text)
		}
	}
}

func TestTheLanguageOfSmallGrammars(t *testing.T) {
	smooth := 0
	allSmallGrammars(func(g api.Grammar) {
		if wantItsLanguage(t, g, 6) > 0 {
			smooth++
		}
	})
	if smooth < 1000 {
		t.Errorf("%d small grammars have no clash", smooth)
	}
}

// R4

func TestAskedAgainItIsTheSame(t *testing.T) {
	manyGrammars(t, 300, func(r func(int) int, g api.Grammar) {
		again := gram.Copy(g)
		for i := range again.Terms {
			again.Terms[i].Level = 0
		}
		again.Levels = nil
		want, err := table.Merged(g)
		if err != api.OK {
			wantError(t, "too many states without levels", again, err)
			return
		}
		wantMerged(t, again, toldCells(want))
		clashes, _ := table.Clashes(g)
		wantClashes(t, again, toldCells(clashes))
	})
}
