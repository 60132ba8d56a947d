package table_test

import (
	"math"
	"slices"
	"strconv"
	"strings"
	"testing"

	"presage/api"
	"presage/gram"
	"presage/spec"
	"presage/table"
)

// read is the grammar of a text.
func read(t *testing.T, text string) api.Grammar {
	t.Helper()
	g, mishap := spec.Read(text)
	if mishap.Code != api.OK {
		t.Fatalf("Read(%q) answers %v", text, mishap)
	}
	return g
}

// readClosed is the closed grammar of a text: that with the added one and the added production, and all else, be it of use or not.
func readClosed(t *testing.T, text string) api.Grammar {
	t.Helper()
	g := read(t, text)
	added := len(g.Terms)
	moved := func(sym int) int {
		if sym >= added {
			return sym + 1
		}
		return sym
	}
	c := api.Grammar{Terms: g.Terms, Levels: g.Levels, Start: moved(g.Start)}
	c.Nons = append([]string{""}, g.Nons...)
	c.Prods = []api.Prod{{Left: added, Right: []int{c.Start}}}
	for _, p := range g.Prods {
		var right []int
		for _, sym := range p.Right {
			right = append(right, moved(sym))
		}
		c.Prods = append(c.Prods, api.Prod{Left: moved(p.Left), Right: right, Level: p.Level})
	}
	return c
}

// toldAction is an action as a text: its kind, and To; of one that accepts to 0 the kind alone.
func toldAction(action api.Action) string {
	switch action {
	case api.Action{Kind: api.Accept}:
		return "a"
	case api.Action{Kind: api.Shift, To: action.To}:
		return "s" + strconv.Itoa(action.To)
	case api.Action{Kind: api.Reduce, To: action.To}:
		return "r" + strconv.Itoa(action.To)
	}
	return "kind " + strconv.Itoa(action.Kind) + " to " + strconv.Itoa(action.To)
}

// told are actions as a text, with blanks between them.
func told(actions []api.Action) string {
	var words []string
	for _, action := range actions {
		words = append(words, toldAction(action))
	}
	return strings.Join(words, " ")
}

// toldCell is a cell as a text: State.Term: and the actions.
func toldCell(state, term int, actions string) string {
	return strconv.Itoa(state) + "." + strconv.Itoa(term) + ": " + actions
}

// toldCells are these as a text, a / between two of them.
func toldCells(list []api.Cell) string {
	var words []string
	for _, one := range list {
		words = append(words, toldCell(one.State, one.Term, told(one.Actions)))
	}
	return strings.Join(words, "/")
}

func shift(state int) string { return "s" + strconv.Itoa(state) }

// reduce are reductions by these productions, as a text.
func reduce(prods ...int) string {
	var words []string
	for _, prod := range prods {
		words = append(words, "r"+strconv.Itoa(prod))
	}
	return strings.Join(words, " ")
}

// upTo are the numbers from one to another, that one too.
func upTo(from, to int) []int {
	var numbers []int
	for n := from; n <= to; n++ {
		numbers = append(numbers, n)
	}
	return numbers
}

func wantMerged(t *testing.T, g api.Grammar, want string) {
	t.Helper()
	if got, err := table.Merged(g); err != api.OK || toldCells(got) != want {
		t.Errorf("Merged(%v) is %s, %d; want %s", g, toldCells(got), err, want)
	}
}

func wantClashes(t *testing.T, g api.Grammar, want string) {
	t.Helper()
	if got, err := table.Clashes(g); err != api.OK || toldCells(got) != want {
		t.Errorf("Clashes(%v) is %s, %d; want %s", g, toldCells(got), err, want)
	}
}

func wantAction(t *testing.T, g api.Grammar, state, term int, want string) {
	t.Helper()
	if got, err := table.Action(g, state, term); err != api.OK || told(got) != want {
		t.Errorf("Action(%v, %d, %d) is %s, %d; want %s", g, state, term, told(got), err, want)
	}
}

func wantNoAction(t *testing.T, g api.Grammar, state, term int, want api.Errno) {
	t.Helper()
	if got, err := table.Action(g, state, term); err != want || len(got) != 0 {
		t.Errorf("Action(%v, %d, %d) is %s, %d; want %d alone", g, state, term, told(got), err, want)
	}
}

// wantError wants that all calls answer that error alone, Action also of places that there are in no table.
func wantError(t *testing.T, what string, g api.Grammar, want api.Errno) {
	t.Helper()
	if got, err := table.Merged(g); err != want || len(got) != 0 {
		t.Errorf("Merged of %s is %s, %d; want %d alone", what, toldCells(got), err, want)
	}
	if got, err := table.Clashes(g); err != want || len(got) != 0 {
		t.Errorf("Clashes of %s is %s, %d; want %d alone", what, toldCells(got), err, want)
	}
	for _, at := range [][2]int{{0, 0}, {-1, 0}, {0, -1}, {api.MaxStates, 0}, {0, math.MaxInt}} {
		if got, err := table.Action(g, at[0], at[1]); err != want || len(got) != 0 {
			t.Errorf("Action of %s at %v is %s, %d; want %d alone", what, at, told(got), err, want)
		}
	}
}

// The chapter's two: + 1, n 2, the added one 3, e 4.
const (
	oneSided = "%token '+' n; e : e '+' n | n ;"
	twoSided = "%token '+' n; e : e '+' e | n ;"
)

// Of these the first has no clash, though what follows r hangs on where it stands; the others have some.
const (
	apart = "s : l '=' r | r ; l : '*' r | n ; r : l ;"
	mixed = "s : a 'x' | 'y' a 'z' | b 'z' | 'y' b 'x' ; a : 'w' ; b : 'w' ;"
	loose = "s : 'i' s | 'i' s 'e' s | 'o' ;"
	sums  = "e : e '+' e | e '*' e | n ;"
)

// P14.1

func TestMergedOfTheExamples(t *testing.T) {
	wantMerged(t, readClosed(t, oneSided), "0.2: s1/1.0: r2/1.1: r2/2.0: a/2.1: s3/3.2: s4/4.0: r1/4.1: r1")
	wantMerged(t, readClosed(t, twoSided), "0.2: s1/1.0: r2/1.1: r2/2.0: a/2.1: s3/3.2: s1/4.0: r1/4.1: s3 r1")
}

func TestMerged(t *testing.T) {
	for _, c := range []struct{ text, want string }{
		{"a : ;", "0.0: r1/1.0: a"},
		{"a : 'x' ;", "0.1: s1/1.0: r1/2.0: a"},
		// Accept stands ahead of a reduction.
		{"a : a ;", "1.0: a r1"},
		{"a : a | ;", "0.0: r2/1.0: a r1"},
		// Productions alike reduce one by one, by rising numbers.
		{"a : 'x' | 'x' | | ;", "0.0: r3 r4/0.1: s1/1.0: r1 r2/2.0: a"},
		// Where x comes it is shifted, and nothing is reduced; at the end it is the other way round.
		{"s : 'x' s | ;", "0.0: r2/0.1: s1/1.0: r2/1.1: s1/2.0: a/3.0: r1"},
		// In state 1, behind x, a shift stands ahead of a reduction.
		{"s : 'x' s 'x' | ;", "0.0: r2/0.1: s1/1.1: s1 r2/2.0: a/3.1: s4/4.0: r1/4.1: r1"},
		// The state behind s shifts as well as it accepts.
		{"s : s 'x' | ;", "0.0: r2/0.1: r2/1.0: a/1.1: s2/2.0: r1/2.1: r1"},
		// n reduces ahead of =, not in a state from which no = follows; = 1, * 2, n 3.
		{apart, "0.2: s1/0.3: s2/1.2: s1/1.3: s2/2.0: r4/2.1: r4/3.0: a/4.0: r5/4.1: s8/5.0: r2/6.0: r5/6.1: r5/7.0: r3/7.1: r3/8.2: s1/8.3: s2/9.0: r1"},
		// Three actions: a shift, and two reductions; y 1, x 2.
		{"s : a 'y' | b 'y' | 'x' 'y' ; a : 'x' ; b : 'x' ;", "0.2: s1/1.1: s5 r4 r5/2.0: a/3.1: s6/4.1: s7/5.0: r3/6.0: r1/7.0: r2"},
		// Accept stands ahead of two reductions; x 1.
		{"s : s | a | 'x' ; a : s ;", "0.1: s1/1.0: r3/2.0: a r1 r4/3.0: r2"},
		// The start symbol in the midst of others: the added production is completed behind state 0 alone.
		{"s : 'x' s 'y' | 'z' ;", "0.1: s1/0.3: s2/1.1: s1/1.3: s2/2.0: r2/2.2: r2/3.0: a/4.2: s5/5.0: r1/5.2: r1"},
		// A production without a lookahead has no cell.
		{"s : 'x' a t ; a : ; t : t ;", "0.1: s1/2.0: a/4.0: r1 r3"},
		// Nothing derives a row of terminals: state 0 has no cell, but those behind it have.
		{"s : a s ; a : a 'x' ;", "1.0: a/2.1: s3/3.1: r2/4.0: r1"},
		// t derives no row of terminals, u is reached from nowhere; x 1, y 2.
		{"s : t | 'x' ; t : 'y' t ; u : 'x' ;", "0.1: s1/0.2: s2/1.0: r2/2.2: s2/3.0: a/4.0: r1/5.0: r3"},
		// The start symbol may be any.
		{"%start b; a : 'x' b ; b : a 'y' | ;", "0.0: r3/0.1: s1/1.1: s1/1.2: r3/2.2: s5/3.0: a/4.2: r1/5.0: r2/5.2: r2"},
	} {
		wantMerged(t, readClosed(t, c.text), c.want)
	}
}

// Levels settle nothing here.
func TestLevelsCountForNothing(t *testing.T) {
	want, _ := table.Merged(readClosed(t, "%token '+' '*' '<'; e : e '+' e | e '*' e | e '<' e | n ;"))
	wantMerged(t, readClosed(t, "%left '+'; %right '*'; %nonassoc '<'; e : e '+' e | e '*' e %none | e '<' e %prec '*' | n ;"), toldCells(want))
	if len(want) != 1+4+4+3+3*4 {
		t.Errorf("there are %d cells: %s", len(want), toldCells(want))
	}
}

// The nonterminals of a closed grammar may stand in any order, and so may its productions.
func TestAClosedGrammarOfItsOwnOrder(t *testing.T) {
	g := api.Grammar{
		Terms: []api.Term{{}, {Name: "x"}, {Name: "y"}},
		Nons:  []string{"", "b", "a"},
		Start: 5,
		Prods: []api.Prod{{Left: 3, Right: []int{5}}, {Left: 5, Right: []int{4, 1}}, {Left: 4}, {Left: 5, Right: []int{4, 5}}, {Left: 4, Right: []int{2}}},
	}
	// a : b x | b a and b : | y. State 1 is behind y, 2 behind b, 3 behind a, 4 behind b x, 5 behind b a.
	want := func() {
		t.Helper()
		wantMerged(t, g, "0.1: r2/0.2: s1 r2/1.1: r4/1.2: r4/2.1: s4 r2/2.2: s1 r2/3.0: a/4.0: r1/5.0: r3")
		wantClashes(t, g, "0.2: s1 r2/2.1: s4 r2/2.2: s1 r2")
		wantAction(t, g, 2, 1, "s4 r2")
	}
	want()
	// A terminal may have a nonterminal's name for its text.
	g.Terms[1].Name = "a"
	want()
}

// P14.2

func TestClashesOfTheExamples(t *testing.T) {
	wantClashes(t, readClosed(t, oneSided), "")
	wantClashes(t, readClosed(t, twoSided), "4.1: s3 r1")
}

func TestClashes(t *testing.T) {
	for _, c := range []struct{ text, want string }{
		{"a : ;", ""},
		{"a : a ;", "1.0: a r1"},
		{"a : 'x' | 'x' | | ;", "0.0: r3 r4/1.0: r1 r2"},
		{"s : 'x' s | ;", ""},
		{"s : 'x' s 'x' | ;", "1.1: s1 r2"},
		{apart, ""},
		// It is LR(1), but the two states behind w are one.
		{mixed, "2.1: r5 r6/2.3: r5 r6"},
		// Behind i s: e 2 may go on with it, or with an s outside.
		{loose, "4.2: s5 r1"},
		// Two states, each at + 1 and * 2, with levels or without.
		{sums, "5.1: s3 r1/5.2: s4 r1/6.1: s3 r2/6.2: s4 r2"},
		{"%left '+'; %left '*'; " + sums, "5.1: s3 r1/5.2: s4 r1/6.1: s3 r2/6.2: s4 r2"},
		{"s : a 'y' | b 'y' | 'x' 'y' ; a : 'x' ; b : 'x' ;", "1.1: s5 r4 r5"},
		{"s : s | a | 'x' ; a : s ;", "2.0: a r1 r4"},
		{"s : 'x' a t ; a : ; t : t ;", "4.0: r1 r3"},
	} {
		wantClashes(t, readClosed(t, c.text), c.want)
	}
}

// P14.3

func TestActionOfTheExample(t *testing.T) {
	g := readClosed(t, twoSided)
	wantAction(t, g, 4, 1, "s3 r1")
	wantAction(t, g, 0, 0, "")
	for _, at := range [][2]int{{5, 0}, {0, 3}, {-1, 0}} {
		wantNoAction(t, g, at[0], at[1], api.ErrArg)
	}
}

func TestAction(t *testing.T) {
	g := readClosed(t, twoSided)
	// All places of the table, with actions or without.
	for at, want := range []string{
		"", "", "s1",
		"r2", "r2", "",
		"a", "s3", "",
		"", "", "s1",
		"r1", "s3 r1", "",
	} {
		wantAction(t, g, at/3, at%3, want)
	}
	// Of a nonterminal there is no cell, though there is an edge.
	for _, at := range [][2]int{{0, 4}, {3, 4}, {0, -1}, {4, 3}, {5, 1}, {5, 3}, {-1, -1}, {math.MaxInt, 0}, {math.MinInt, 0}, {0, math.MaxInt}, {0, math.MinInt}} {
		wantNoAction(t, g, at[0], at[1], api.ErrArg)
	}
}

// The bounds

// long is a closed grammar of s : x .. x, with that many x, two at least: state 1 is behind x, 2 behind s, k + 1 behind k x.
func long(length int) api.Grammar {
	return api.Grammar{
		Terms: []api.Term{{}, {Name: "x"}},
		Nons:  []string{"", "s"},
		Start: 3,
		Prods: []api.Prod{{Left: 2, Right: []int{3}}, {Left: 3, Right: slices.Repeat([]int{1}, length)}},
	}
}

func TestTheMostStates(t *testing.T) {
	const length, last = api.MaxStates - 2, api.MaxStates - 1
	g := long(length)
	want := "0.1: s1/1.1: s3/2.0: a"
	for state := 3; state < last; state++ {
		want += "/" + toldCell(state, 1, shift(state+1))
	}
	wantMerged(t, g, want+"/"+toldCell(last, 0, reduce(1)))
	wantClashes(t, g, "")
	wantAction(t, g, last-1, 1, shift(last))
	wantAction(t, g, last, 0, reduce(1))
	wantAction(t, g, last, 1, "")
	wantNoAction(t, g, last+1, 0, api.ErrArg)
	wantNoAction(t, g, last, 2, api.ErrArg)
	wantError(t, "a state too many", long(length+1), api.ErrTooBig)
	wantError(t, "far too many states", long(100000), api.ErrTooBig)
}

// s : s t1 | s t2 .. | t1, with all terminals that may be: state 1 is behind t1, 2 behind s, 2 + i behind s ti.
func TestTheMostTerminals(t *testing.T) {
	const terms = api.MaxSyms - 1
	g := api.Grammar{Terms: []api.Term{{}}, Nons: []string{"", "s"}, Start: terms + 2, Prods: []api.Prod{{Left: terms + 1, Right: []int{terms + 2}}}}
	first, second, others := []string{"0.1: s1"}, []string{"2.0: a"}, []string{}
	for i := 1; i <= terms; i++ {
		g.Terms = append(g.Terms, api.Term{Name: "t" + strconv.Itoa(i)})
		g.Prods = append(g.Prods, api.Prod{Left: terms + 2, Right: []int{terms + 2, i}})
		second = append(second, toldCell(2, i, shift(2+i)))
		for term := range terms + 1 {
			others = append(others, toldCell(2+i, term, reduce(i)))
		}
	}
	g.Prods = append(g.Prods, api.Prod{Left: terms + 2, Right: []int{1}})
	for term := range terms + 1 {
		first = append(first, toldCell(1, term, reduce(terms+1)))
	}
	wantMerged(t, g, strings.Join(slices.Concat(first, second, others), "/"))
	wantClashes(t, g, "")
	wantAction(t, g, 2, terms, shift(2+terms))
	wantAction(t, g, 0, terms, "")
	wantNoAction(t, g, 0, terms+1, api.ErrArg)
	g.Terms = append(g.Terms, api.Term{Name: "more"})
	wantError(t, "a symbol too many", g, api.ErrArg)
}

// One cell may have all productions, and Accept or a Shift ahead of them.
func TestTheMostActionsOfACell(t *testing.T) {
	all := reduce(upTo(1, api.MaxProds)...)
	g := api.Grammar{Terms: []api.Term{{}}, Nons: []string{"", "a"}, Start: 2, Prods: []api.Prod{{Left: 1, Right: []int{2}}}}
	for len(g.Prods) <= api.MaxProds {
		g.Prods = append(g.Prods, api.Prod{Left: 2, Right: []int{2}})
	}
	wantMerged(t, g, toldCell(1, 0, "a "+all))
	wantClashes(t, g, toldCell(1, 0, "a "+all))
	wantAction(t, g, 1, 0, "a "+all)
	for i := range g.Prods[1:] {
		g.Prods[1+i].Right = nil
	}
	wantMerged(t, g, toldCell(0, 0, all)+"/1.0: a")
	wantAction(t, g, 0, 0, all)
	g.Prods = append(g.Prods, api.Prod{Left: 2, Right: []int{2}})
	wantError(t, "a production too many", g, api.ErrArg)
	// a : x a x, and a : nothing, as often as may be.
	g.Prods = g.Prods[:1+api.MaxProds]
	g.Terms = append(g.Terms, api.Term{Name: "x"})
	g.Start = 3
	g.Prods[0] = api.Prod{Left: 2, Right: []int{3}}
	for i := range g.Prods[1:] {
		g.Prods[1+i] = api.Prod{Left: 3}
	}
	g.Prods[1].Right = []int{1, 3, 1}
	rest := reduce(upTo(2, api.MaxProds)...)
	wantMerged(t, g, toldCell(0, 0, rest)+"/0.1: s1/"+toldCell(1, 1, "s1 "+rest)+"/2.0: a/3.1: s4/4.0: r1/4.1: r1")
	wantClashes(t, g, toldCell(0, 0, rest)+"/"+toldCell(1, 1, "s1 "+rest))
	wantAction(t, g, 1, 1, "s1 "+rest)
}

// e : e t1 e | e t2 e .. | the last terminal: behind e ti e all of them but the last one clash.
func TestManyClashes(t *testing.T) {
	const terms = api.MaxSyms - 1
	g := api.Grammar{Terms: []api.Term{{}}, Nons: []string{"", "e"}, Start: terms + 2, Prods: []api.Prod{{Left: terms + 1, Right: []int{terms + 2}}}}
	for i := 1; i <= terms; i++ {
		g.Terms = append(g.Terms, api.Term{Name: "t" + strconv.Itoa(i)})
		right := []int{terms + 2, i, terms + 2}
		if i == terms {
			right = []int{i}
		}
		g.Prods = append(g.Prods, api.Prod{Left: terms + 2, Right: right})
	}
	// State 1 is behind the last terminal, 2 behind e, 2 + i behind e ti, 2 + (terms - 1) + i behind e ti e.
	const behind = 2 + (terms - 1)
	var want []string
	for i := 1; i < terms; i++ {
		for term := 1; term < terms; term++ {
			want = append(want, toldCell(behind+i, term, shift(2+term)+" "+reduce(i)))
		}
	}
	wantClashes(t, g, strings.Join(want, "/"))
	// State 0 and the states behind e ti shift the last terminal alone; state 1 reduces ahead of all others, state 2 shifts these, or accepts; the rest reduce ahead of all others.
	if got, err := table.Merged(g); err != api.OK || len(got) != terms+terms+terms+(terms-1)*terms {
		t.Errorf("Merged of %d clashes has %d cells, %d", len(want), len(got), err)
	}
}

// R1: rows may be far longer than there are states, where nothing leads to them, and may share memory.

func TestLongRowsThatNothingReaches(t *testing.T) {
	g := readClosed(t, twoSided+" u : ;")
	row := slices.Repeat([]int{4, 1, 5, 2}, 1<<16)
	g.Prods[3].Right = row
	for len(g.Prods) <= api.MaxProds {
		g.Prods = append(g.Prods, api.Prod{Left: 5, Right: row})
	}
	wantMerged(t, g, "0.2: s1/1.0: r2/1.1: r2/2.0: a/2.1: s3/3.2: s1/4.0: r1/4.1: s3 r1")
	wantClashes(t, g, "4.1: s3 r1")
	wantAction(t, g, 4, 1, "s3 r1")
}

func TestRowsThatShareMemory(t *testing.T) {
	g := long(2)
	row := slices.Repeat([]int{1}, 1<<16)
	for len(g.Prods) <= api.MaxProds {
		g.Prods = append(g.Prods, api.Prod{Left: 3, Right: row})
	}
	wantError(t, "rows that are far too long", g, api.ErrTooBig)
	for i := range g.Prods[1:] {
		g.Prods[1+i].Right = row[:1+i%2]
	}
	// Of one x are 1, 3, 5 ..; of two are 2, 4, 6 ..
	var one, two []int
	for prod := 1; prod <= api.MaxProds; prod += 2 {
		one, two = append(one, prod), append(two, prod+1)
	}
	wantMerged(t, g, "0.1: s1/1.0: "+reduce(one...)+"/1.1: s3/2.0: a/3.0: "+reduce(two...))
}

// R6

func TestNoGrammar(t *testing.T) {
	wantError(t, "nothing", api.Grammar{}, api.ErrArg)
	wantError(t, "an end marker alone", api.Grammar{Terms: []api.Term{{}}}, api.ErrArg)
	for what, spoil := range map[string]func(g *api.Grammar){
		"no end marker":               func(g *api.Grammar) { g.Terms[0].Name = "w" },
		"two texts alike":             func(g *api.Grammar) { g.Terms[2].Name = g.Terms[1].Name },
		"a terminal's level too high": func(g *api.Grammar) { g.Terms[1].Level = 1 },
		"a name that is none":         func(g *api.Grammar) { g.Nons[1] = "9" },
		"a level of nobody":           func(g *api.Grammar) { g.Levels = []int{api.Left} },
		"no productions":              func(g *api.Grammar) { g.Prods = nil },
		"the added production alone":  func(g *api.Grammar) { g.Prods = g.Prods[:1] },
		"no added production":         func(g *api.Grammar) { g.Prods = g.Prods[1:] },
		"no added one":                func(g *api.Grammar) { g.Nons[0] = "n" },
		"an added one of another row": func(g *api.Grammar) { g.Prods[0].Right = []int{5} },
		"an added one that starts":    func(g *api.Grammar) { g.Start = 3 },
		"an added one in a right":     func(g *api.Grammar) { g.Prods[1].Right[0] = 3 },
		"a terminal for a left":       func(g *api.Grammar) { g.Prods[1].Left = 1 },
		"the end marker in a right":   func(g *api.Grammar) { g.Prods[1].Right[0] = 0 },
		"a symbol below all":          func(g *api.Grammar) { g.Prods[1].Right[0] = -1 },
		"a symbol behind all":         func(g *api.Grammar) { g.Prods[1].Right[0] = len(g.Terms) + len(g.Nons) },
		"a symbol far above":          func(g *api.Grammar) { g.Prods[1].Right[0] = math.MaxInt },
		"a start that is a terminal":  func(g *api.Grammar) { g.Start = 1 },
		"a start that is nothing":     func(g *api.Grammar) { g.Start = math.MinInt },
	} {
		g := readClosed(t, "A : B A | 'x' ; B : A 'y' | ;")
		spoil(&g)
		wantError(t, "a closed grammar with "+what, g, api.ErrArg)
	}
	// Of two errors it is the grammar's.
	g := long(1000)
	g.Prods[1].Right[0] = 0
	wantError(t, "too many states of what is no grammar", g, api.ErrArg)
}

// What is plain is never closed.
func TestPlainGrammars(t *testing.T) {
	for _, text := range []string{"A : ;", "A : A ;", "A : B ; B : A | 'x' ;", oneSided, twoSided} {
		wantError(t, "the plain grammar "+text, read(t, text), api.ErrArg)
	}
}

// R3

// roomy is a grammar whose lists all have spare room, with marks in it.
func roomy(g api.Grammar) api.Grammar {
	g = gram.Copy(g)
	g.Terms = append(g.Terms, api.Term{Name: "spare"})[:len(g.Terms)]
	g.Nons = append(g.Nons, "spare")[:len(g.Nons)]
	g.Levels = append(g.Levels, 77)[:len(g.Levels)]
	for i, p := range g.Prods {
		g.Prods[i].Right = append(p.Right, 77)[:len(p.Right)]
	}
	g.Prods = append(g.Prods, api.Prod{Left: 77})[:len(g.Prods)]
	return g
}

func isUntouched(g, want api.Grammar) bool {
	for i, p := range g.Prods {
		if p.Right[:len(want.Prods[i].Right)+1][len(want.Prods[i].Right)] != 77 {
			return false
		}
	}
	return gram.Same(g, want) && g.Terms[:len(g.Terms)+1][len(g.Terms)].Name == "spare" && g.Nons[:len(g.Nons)+1][len(g.Nons)] == "spare" &&
		g.Levels[:len(g.Levels)+1][len(g.Levels)] == 77 && g.Prods[:len(g.Prods)+1][len(g.Prods)].Left == 77
}

// tangled has cells of one, two and three actions, of all kinds.
const tangled = "%left '+'; %right '*'; s : s '+' s | a s b | a ; a : b b | 'x' ; b : | a '*' | s ;"

// overwrite writes over a list, spare room too.
func overwrite[T any](list []T, by T) {
	for i := range cap(list) {
		list[:cap(list)][i] = by
	}
}

// wantOwnMemory wants that no list shares memory with another one of the same answer or of a later one, spare room included.
func wantOwnMemory(t *testing.T, what string, ask func() []api.Cell) {
	t.Helper()
	want := ask()
	asTold := toldCells(want)
	for at := range want {
		spoiled := ask()
		overwrite(spoiled[at].Actions, api.Action{Kind: 55, To: 55})
		for i, one := range spoiled {
			if i != at && told(one.Actions) != told(want[i].Actions) {
				t.Errorf("%s: the actions %d and %d are one list", what, at, i)
			}
		}
		overwrite(spoiled, api.Cell{State: 55, Term: 55})
		if again := toldCells(ask()); again != asTold {
			t.Errorf("%s is %s, then %s", what, asTold, again)
		}
	}
	if len(want) < 10 {
		t.Errorf("%s has but %d cells", what, len(want))
	}
}

func TestAnswersAreNewMemory(t *testing.T) {
	want := readClosed(t, tangled)
	g := roomy(want)
	wantOwnMemory(t, "Merged", func() []api.Cell {
		list, _ := table.Merged(g)
		return list
	})
	wantOwnMemory(t, "Clashes", func() []api.Cell {
		list, _ := table.Clashes(g)
		return list
	})
	list, _ := table.Clashes(g)
	most := slices.MaxFunc(list, func(a, b api.Cell) int { return len(a.Actions) - len(b.Actions) })
	actions, _ := table.Action(g, most.State, most.Term)
	overwrite(actions, api.Action{Kind: 55, To: 55})
	wantAction(t, g, most.State, most.Term, told(most.Actions))
	if !isUntouched(g, want) {
		t.Errorf("the grammar became %v, it was %v", g, want)
	}
}
