package lr0_test

import (
	"math"
	"slices"
	"strconv"
	"strings"
	"testing"

	"presage/api"
	"presage/gram"
	"presage/lr0"
	"presage/spec"
)

// read is the grammar of a text.
func read(t *testing.T, text string) api.Grammar {
	t.Helper()
	g, mishap := spec.Read(text)
	if mishap.Code != api.OK {
		t.Fatalf("Read(%q) answers %v", text, mishap)
	}
	return g
}

// closedOf adds the added one and the added production to a plain grammar.
func closedOf(g api.Grammar) api.Grammar {
	added := len(g.Terms)
	c := api.Grammar{Terms: g.Terms, Levels: g.Levels, Start: inClosed(g, g.Start)[0]}
	c.Nons = append([]string{""}, g.Nons...)
	c.Prods = []api.Prod{{Left: added, Right: []int{c.Start}}}
	for _, p := range g.Prods {
		c.Prods = append(c.Prods, api.Prod{Left: inClosed(g, p.Left)[0], Right: inClosed(g, p.Right...), Level: p.Level})
	}
	return c
}

// inClosed are the symbols of a plain grammar by their numbers in what is closed of it.
func inClosed(g api.Grammar, syms ...int) []int {
	moved := slices.Clone(syms)
	for i, sym := range moved {
		if sym >= len(g.Terms) {
			moved[i]++
		}
	}
	return moved
}

// readClosed is the closed grammar of a text.
func readClosed(t *testing.T, text string) api.Grammar {
	t.Helper()
	return closedOf(read(t, text))
}

// sum is the chapter's: + 1, n 2, the added one 3, e 4.
func sum(t *testing.T) api.Grammar {
	t.Helper()
	return readClosed(t, "e : e '+' n | n ;")
}

// itemsOf are the items of a text: Prod.Dot each, with blanks between them.
func itemsOf(t *testing.T, text string) []api.Item {
	t.Helper()
	var items []api.Item
	for _, one := range strings.Fields(text) {
		prod, dot, _ := strings.Cut(one, ".")
		p, errProd := strconv.Atoi(prod)
		d, errDot := strconv.Atoi(dot)
		if errProd != nil || errDot != nil {
			t.Fatalf("%s is no item", one)
		}
		items = append(items, api.Item{Prod: p, Dot: d})
	}
	return items
}

// told are items as such a text.
func told(items []api.Item) string {
	var words []string
	for _, item := range items {
		words = append(words, strconv.Itoa(item.Prod)+"."+strconv.Itoa(item.Dot))
	}
	return strings.Join(words, " ")
}

// toldStates are states as a text: the kernel, then each edge as Sym>To; a / between two states.
func toldStates(states []api.State) string {
	var all []string
	for _, state := range states {
		words := told(state.Kernel)
		for _, edge := range state.Edges {
			words += " " + strconv.Itoa(edge.Sym) + ">" + strconv.Itoa(edge.To)
		}
		all = append(all, words)
	}
	return strings.Join(all, " / ")
}

func wantClosure(t *testing.T, g api.Grammar, items, want string) {
	t.Helper()
	if got, err := lr0.Closure(g, itemsOf(t, items)...); err != api.OK || told(got) != want {
		t.Errorf("Closure(%v, %s) is %s, %d; want %s", g, items, told(got), err, want)
	}
}

func wantGoto(t *testing.T, g api.Grammar, sym int, items, want string) {
	t.Helper()
	if got, err := lr0.Goto(g, sym, itemsOf(t, items)...); err != api.OK || told(got) != want {
		t.Errorf("Goto(%v, %d, %s) is %s, %d; want %s", g, sym, items, told(got), err, want)
	}
}

// wantBuild wants these states, and as many asked for and interned as these make.
func wantBuild(t *testing.T, g api.Grammar, want string) {
	t.Helper()
	asked, interned := 1+strings.Count(want, ">"), 1+strings.Count(want, "/")
	if got, err := lr0.Build(g); err != api.OK || toldStates(got.States) != want || got.Asked != asked || got.Interned != interned {
		t.Errorf("Build(%v) is %s, asked %d, interned %d, %d; want %s, %d, %d", g, toldStates(got.States), got.Asked, got.Interned, err, want, asked, interned)
	}
}

// wantSize wants so many states, all of them reached, and so many edges.
func wantSize(t *testing.T, what string, g api.Grammar, states, edges int) api.Automaton {
	t.Helper()
	a, err := lr0.Build(g)
	if err != api.OK || len(a.States) != states || a.Interned != states || a.Asked != 1+edges || edgesOf(a) != edges {
		t.Errorf("%s: %d states, %d edges, asked %d, interned %d, %d; want %d states, %d edges", what, len(a.States), edgesOf(a), a.Asked, a.Interned, err, states, edges)
	}
	return a
}

func edgesOf(a api.Automaton) int {
	edges := 0
	for _, state := range a.States {
		edges += len(state.Edges)
	}
	return edges
}

// wantBuildError wants that error, and beside it nothing.
func wantBuildError(t *testing.T, what string, g api.Grammar, want api.Errno) {
	t.Helper()
	if a, err := lr0.Build(g); err != want || len(a.States) != 0 || a.Asked != 0 || a.Interned != 0 {
		t.Errorf("Build of %s is %d states, asked %d, interned %d, %d; want %d alone", what, len(a.States), a.Asked, a.Interned, err, want)
	}
}

func wantClosureArg(t *testing.T, what string, g api.Grammar, items ...api.Item) {
	t.Helper()
	if got, err := lr0.Closure(g, items...); err != api.ErrArg || len(got) != 0 {
		t.Errorf("Closure of %s is %v, %d; want ErrArg alone", what, got, err)
	}
}

func wantGotoArg(t *testing.T, what string, g api.Grammar, sym int, items ...api.Item) {
	t.Helper()
	if got, err := lr0.Goto(g, sym, items...); err != api.ErrArg || len(got) != 0 {
		t.Errorf("Goto of %s is %v, %d; want ErrArg alone", what, got, err)
	}
}

// wantArg wants that all calls answer ErrArg alone, whatever items and symbols are asked.
func wantArg(t *testing.T, what string, g api.Grammar) {
	t.Helper()
	wantBuildError(t, what, g, api.ErrArg)
	wantClosureArg(t, what, g)
	wantClosureArg(t, what, g, api.Item{})
	wantClosureArg(t, what, g, api.Item{Prod: 1, Dot: 1})
	wantClosureArg(t, what, g, api.Item{Prod: -1})
	wantGotoArg(t, what, g, 0)
	wantGotoArg(t, what, g, 1, api.Item{})
	wantGotoArg(t, what, g, -1, api.Item{})
}

// P9.1

func TestClosureOfTheExample(t *testing.T) {
	g := sum(t)
	wantClosure(t, g, "0.0", "0.0 1.0 2.0")
	wantClosure(t, g, "1.1", "1.1")
	wantClosure(t, g, "", "")
	wantClosureArg(t, "3.0", g, api.Item{Prod: 3})
	wantClosureArg(t, "1.4", g, api.Item{Prod: 1, Dot: 4})
}

func TestClosures(t *testing.T) {
	for _, c := range []struct{ text, items, want string }{
		// What is brought along brings more along, be it ahead or behind.
		{"a : b ; b : c 'x' ; c : d | 'y' ; d : ;", "0.0", "0.0 1.0 2.0 3.0 4.0 5.0"},
		{"a : b ; b : c 'x' ; c : d | 'y' ; d : ;", "2.0", "2.0 3.0 4.0 5.0"},
		{"a : b ; b : c 'x' ; c : d | 'y' ; d : ;", "2.1", "2.1"},
		{"%start d; a : 'x' ; b : a ; c : b ; d : c ;", "0.0", "0.0 1.0 2.0 3.0 4.0"},
		{"%start d; a : 'x' ; b : a ; c : b ; d : c ;", "3.0", "1.0 2.0 3.0"},
		// A terminal brings nothing along, nor does the end.
		{"a : 'x' b ; b : 'y' ;", "1.0", "1.0"},
		{"a : 'x' b ; b : 'y' ;", "1.1", "1.1 2.0"},
		{"a : 'x' b ; b : 'y' ;", "1.2", "1.2"},
		{"a : 'x' b ; b : 'y' ;", "0.1", "0.1"},
		{"a : 'x' b ; b : 'y' ;", "2.1", "2.1"},
		// Only what the Dot stands right ahead of: what may vanish lets nothing behind it through.
		{"a : b c ; b : ; c : 'x' ;", "0.0", "0.0 1.0 2.0"},
		{"a : b c ; b : ; c : 'x' ;", "1.1", "1.1 3.0"},
		{"a : b c ; b : ; c : 'x' ;", "2.0", "2.0"},
		// Productions of one nonterminal may stand apart.
		{"a : b 'x' ; b : a ; a : 'x' ; b : 'y' ; a : ;", "0.0", "0.0 1.0 2.0 3.0 4.0 5.0"},
		{"a : b 'x' ; b : 'z' ; a : 'x' ; b : 'y' ; a : ;", "1.0", "1.0 2.0 4.0"},
		// Those alike are all told.
		{"a : 'x' | 'x' | ;", "0.0", "0.0 1.0 2.0 3.0"},
		{"a : a | a ;", "1.0", "1.0 2.0"},
		{"a : a | a ;", "1.1", "1.1"},
		{"a : a a a ;", "1.1", "1.0 1.1"},
		{"a : a a a ;", "1.2", "1.0 1.2"},
		{"a : a a a ;", "1.3", "1.3"},
		// What is of no use counts like all others.
		{"a : b | 'x' ; b : b c ; c : 'y' c ; d : a ;", "0.0", "0.0 1.0 2.0 3.0"},
		{"a : b | 'x' ; b : b c ; c : 'y' c ; d : a ;", "5.0 3.1", "1.0 2.0 3.0 3.1 4.0 5.0"},
	} {
		wantClosure(t, readClosed(t, c.text), c.items, c.want)
	}
}

func TestClosuresOfSeveralItems(t *testing.T) {
	g := readClosed(t, "a : b 'x' b | c ; b : 'y' b | ; c : c 'z' a | b ;")
	for _, c := range [][2]string{
		// In whatever order they are given, they are told in order.
		{"1.3 1.1 0.1", "0.1 1.1 1.3"},
		{"6.1 5.3 1.1", "1.1 5.3 6.1"},
		{"3.2 1.3 3.1", "1.3 3.0 3.1 3.2 4.0"},
		// Each once, be it given twice, or brought along too.
		{"1.1 1.1", "1.1"},
		{"1.1 0.1 1.1 0.1 1.1", "0.1 1.1"},
		{"4.0 3.0 3.1", "3.0 3.1 4.0"},
		{"1.2 4.0 1.2 3.0", "1.2 3.0 4.0"},
		{"2.0 5.0 6.0 3.0 4.0 5.0", "2.0 3.0 4.0 5.0 6.0"},
		{"0.0 0.1", "0.0 0.1 1.0 2.0 3.0 4.0 5.0 6.0"},
		{"4.0", "4.0"},
		{"5.1 1.1 0.1", "0.1 1.1 5.1"},
		{"5.2 1.0 1.1 1.2 1.3", "1.0 1.1 1.2 1.3 2.0 3.0 4.0 5.0 5.2 6.0"},
	} {
		wantClosure(t, g, c[0], c[1])
	}
}

func TestNoItems(t *testing.T) {
	g := readClosed(t, "e : e '+' n | n | ;")
	for _, item := range []api.Item{
		{Prod: -1}, {Prod: 4}, {Prod: math.MaxInt}, {Prod: math.MinInt},
		{Prod: 0, Dot: -1}, {Prod: 0, Dot: 2}, {Prod: 1, Dot: 4}, {Prod: 2, Dot: 2}, {Prod: 3, Dot: 1}, {Prod: 3, Dot: -1},
		{Prod: 1, Dot: math.MaxInt}, {Prod: 1, Dot: math.MinInt}, {Prod: -1, Dot: -1}, {Prod: math.MaxInt, Dot: math.MaxInt},
	} {
		what := told([]api.Item{item})
		wantClosureArg(t, what, g, item)
		wantGotoArg(t, what, g, 4, item)
		// One among others is enough, wherever it stands.
		wantClosureArg(t, what+" behind 0.0", g, api.Item{}, item)
		wantClosureArg(t, what+" ahead of 0.0", g, item, api.Item{})
		wantGotoArg(t, what+" behind 0.0", g, 4, api.Item{}, item)
		wantGotoArg(t, what+" ahead of 0.0", g, 4, item, api.Item{})
		wantGotoArg(t, what+" by a symbol that is not ahead", g, 1, item)
	}
}

// The Dot may stand at the end, and in the empty row there is nowhere else.
func TestTheLastItems(t *testing.T) {
	g := readClosed(t, "e : e '+' n | n | ;")
	for _, item := range []string{"0.1", "1.3", "2.1", "3.0"} {
		wantClosure(t, g, item, item)
		for sym := range 5 {
			wantGoto(t, g, sym, item, "")
		}
	}
}

// P9.2

func TestGotoOfTheExample(t *testing.T) {
	g := sum(t)
	wantGoto(t, g, 4, "0.0", "0.1 1.1")
	wantGoto(t, g, 2, "0.0", "2.1")
	wantGoto(t, g, 1, "0.0", "")
	wantGoto(t, g, 0, "0.0", "")
	wantGotoArg(t, "no symbol", g, 5, api.Item{})
}

func TestKernels(t *testing.T) {
	// x 1, y 2, z 3, the added one 4, a 5, b 6, c 7.
	g := readClosed(t, "a : b 'x' b | c ; b : 'y' b | ; c : c 'z' a | b ;")
	for _, c := range []struct {
		sym         int
		items, want string
	}{
		{5, "0.0", "0.1"},
		{6, "0.0", "1.1 6.1"},
		{7, "0.0", "2.1 5.1"},
		{2, "0.0", "3.1"},
		{1, "0.0", ""},
		{3, "0.0", ""},
		// Of the closure, not of what is given alone.
		{6, "5.2", "1.1 6.1"},
		{2, "3.1", "3.1"},
		{6, "3.1", "3.2"},
		{2, "1.2", "3.1"},
		// In order, each once, in whatever order they are given.
		{6, "6.0 3.1 1.2 1.0", "1.1 1.3 3.2 6.1"},
		{6, "1.2 1.2 1.0 1.2", "1.1 1.3"},
		{1, "1.1 5.1", "1.2"},
		{3, "1.1 5.1", "5.2"},
		// Of no items, and of completed ones, none.
		{5, "", ""},
		{6, "", ""},
		{1, "1.3 2.1 4.0 6.1", ""},
	} {
		wantGoto(t, g, c.sym, c.items, c.want)
	}
}

func TestKernelsOfOneRow(t *testing.T) {
	g := readClosed(t, "a : a a a | 'x' ;")
	wantGoto(t, g, 3, "0.0", "0.1 1.1")
	wantGoto(t, g, 3, "0.1 1.1", "1.1 1.2")
	wantGoto(t, g, 3, "1.1 1.2", "1.1 1.2 1.3")
	wantGoto(t, g, 3, "1.3 1.2 1.1 1.0", "1.1 1.2 1.3")
	wantGoto(t, g, 1, "1.3 1.2 1.1 1.0", "2.1")
}

// The end marker and the added one are symbols, but no Dot ever stands ahead of them.
func TestSymbolsThatNoDotStandsAheadOf(t *testing.T) {
	g := sum(t)
	for _, items := range []string{"", "0.0", "0.1", "1.0 1.1 1.2 1.3", "0.0 0.1 1.0 1.1 1.2 1.3 2.0 2.1"} {
		wantGoto(t, g, 0, items, "")
		wantGoto(t, g, 3, items, "")
	}
}

func TestNoSymbols(t *testing.T) {
	g := sum(t)
	for _, sym := range []int{-1, 5, 6, math.MaxInt, math.MinInt} {
		what := "the symbol " + strconv.Itoa(sym)
		wantGotoArg(t, what, g, sym)
		wantGotoArg(t, what, g, sym, api.Item{})
		wantGotoArg(t, what, g, sym, api.Item{Prod: 1, Dot: 3})
		wantGotoArg(t, what+" of no item", g, sym, api.Item{Prod: 9})
	}
}

// P9.3

func TestBuildOfTheExample(t *testing.T) {
	wantBuild(t, sum(t), "0.0 2>1 4>2 / 2.1 / 0.1 1.1 1>3 / 1.2 2>4 / 1.3")
}

func TestStates(t *testing.T) {
	for _, c := range []struct{ text, want string }{
		{"a : ;", "0.0 2>1 / 0.1"},
		{"a : 'x' ;", "0.0 1>1 3>2 / 1.1 / 0.1"},
		{"a : a ;", "0.0 2>1 / 0.1 1.1"},
		{"a : a | a ;", "0.0 2>1 / 0.1 1.1 2.1"},
		{"a : 'x' | 'x' ;", "0.0 1>1 3>2 / 1.1 2.1 / 0.1"},
		{"a : 'x' a | ;", "0.0 1>1 3>2 / 1.1 1>1 3>3 / 0.1 / 1.2"},
		{"a : a a a | 'x' ;", "0.0 1>1 3>2 / 2.1 / 0.1 1.1 1>1 3>3 / 1.1 1.2 1>1 3>4 / 1.1 1.2 1.3 1>1 3>4"},
		// Terminals come ahead of nonterminals, the states of one wave ahead of those behind them.
		{"s : a 'x' | 'y' a 'z' | b 'z' | 'y' b 'x' ; a : 'w' ; b : 'w' ;",
			"0.0 2>1 4>2 6>3 7>4 8>5 / 2.1 4.1 4>2 7>6 8>7 / 5.1 6.1 / 0.1 / 1.1 1>8 / 3.1 3>9 / 2.2 3>10 / 4.2 1>11 / 1.2 / 3.2 / 2.3 / 4.3"},
		// Where several edges lead to one state.
		{"s : 'x' s 'x' | 'y' s 'y' | 'z' ;",
			"0.0 1>1 2>2 3>3 5>4 / 1.1 1>1 2>2 3>3 5>5 / 2.1 1>1 2>2 3>3 5>6 / 3.1 / 0.1 / 1.2 1>7 / 2.2 2>8 / 1.3 / 2.3"},
		// Kernels that begin alike, and of which one begins another, are not one.
		{"s : 'x' 'y' | 'x' s | 'y' 'x' 'z' ;", "0.0 1>1 2>2 5>3 / 1.1 2.1 1>1 2>4 5>5 / 3.1 1>6 / 0.1 / 1.2 3.1 1>6 / 2.2 / 3.2 3>7 / 3.3"},
		{"s : 'x' 'x' | 'x' s ;", "0.0 1>1 3>2 / 1.1 2.1 1>3 3>4 / 0.1 / 1.1 1.2 2.1 1>3 3>4 / 2.2"},
		// What is reached from nowhere has no state; what derives nothing has.
		{"s : 'x' ; t : 'y' t ;", "0.0 1>1 4>2 / 1.1 / 0.1"},
		{"s : t | 'x' ; t : 'y' t ;", "0.0 1>1 2>2 4>3 5>4 / 2.1 / 3.1 2>2 5>5 / 0.1 / 1.1 / 3.2"},
		// The start symbol may be any.
		{"%start b; a : 'x' ; b : 'y' a ;", "0.0 2>1 5>2 / 2.1 1>3 4>4 / 0.1 / 1.1 / 2.2"},
		// Levels are nothing to states.
		{"%left '+'; e : e '+' e %none | n ;", "0.0 2>1 4>2 / 2.1 / 0.1 1.1 1>3 / 1.2 2>1 4>4 / 1.1 1.3 1>3"},
	} {
		wantBuild(t, readClosed(t, c.text), c.want)
	}
}

// The nonterminals of a closed grammar may stand in any order, and so may its productions.
func TestAClosedGrammarOfItsOwnOrder(t *testing.T) {
	g := api.Grammar{
		Terms: []api.Term{{}, {Name: "x"}, {Name: "y"}},
		Nons:  []string{"", "b", "a"},
		Start: 5,
		Prods: []api.Prod{{Left: 3, Right: []int{5}}, {Left: 5, Right: []int{4, 1}}, {Left: 4, Right: []int{2}}, {Left: 5, Right: []int{4, 5}}},
	}
	wantBuild(t, g, "0.0 2>1 4>2 5>3 / 2.1 / 1.1 3.1 1>4 2>1 4>2 5>5 / 0.1 / 1.2 / 3.2")
	wantClosure(t, g, "3.1", "1.0 2.0 3.0 3.1")
	wantGoto(t, g, 4, "3.1", "1.1 3.1")
	// A terminal may have a nonterminal's name for its text.
	g.Terms[1].Name = "a"
	wantBuild(t, g, "0.0 2>1 4>2 5>3 / 2.1 / 1.1 3.1 1>4 2>1 4>2 5>5 / 0.1 / 1.2 / 3.2")
}

// row is a closed grammar of productions 1 and 2, s : x s | x .. x, with that many x in the second.
func row(length int) api.Grammar {
	return api.Grammar{
		Terms: []api.Term{{}, {Name: "x"}},
		Nons:  []string{"", "s"},
		Start: 3,
		Prods: []api.Prod{{Left: 2, Right: []int{3}}, {Left: 3, Right: []int{1, 3}}, {Left: 3, Right: slices.Repeat([]int{1}, length)}},
	}
}

// Of such a row there are as many states behind x as it is long, state 0, and two behind s.
func TestTheMostStates(t *testing.T) {
	for _, length := range []int{1, 2, 100, api.MaxStates - 4, api.MaxStates - 3} {
		states := length + 3
		wantSize(t, "a row of "+strconv.Itoa(length), row(length), states, 2*(length+1))
	}
	for _, length := range []int{api.MaxStates - 2, api.MaxStates - 1, 2 * api.MaxStates, 1 << 20} {
		wantBuildError(t, "a row of "+strconv.Itoa(length), row(length), api.ErrTooBig)
	}
	wantArg(t, "a grammar that is not closed, of too many states", read(t, "s : "+strings.Repeat("x ", api.MaxStates)+";"))
}

// The last state may be found by the last edge of all, and edges to what is there already may come behind it.
func TestTheLastState(t *testing.T) {
	g := row(0)
	g.Prods[2].Right = []int{1}
	for len(g.Prods[1].Right) < api.MaxStates-2 {
		g.Prods[1].Right = slices.Insert(g.Prods[1].Right, 0, 1)
	}
	a := wantSize(t, "x .. x s and x", g, api.MaxStates, api.MaxStates)
	if last := a.States[api.MaxStates-2].Edges; !slices.Equal(last, []api.Edge{{Sym: 1, To: 1}, {Sym: 3, To: api.MaxStates - 1}}) {
		t.Errorf("the last edges are %v", last)
	}
	g.Prods[1].Right = append(g.Prods[1].Right, 1)
	wantBuildError(t, "x .. x s x and x", g, api.ErrTooBig)
	g.Prods[1].Right = append(g.Prods[1].Right[2:], 3)
	wantSize(t, "x .. x s x s and x", g, api.MaxStates, api.MaxStates+1)
}

// There may be far more states than anybody can wait for: one for each choice of the places, of so many last ones, at which an x stands.
func TestFarTooManyStates(t *testing.T) {
	far := func(places int) api.Grammar {
		g := api.Grammar{Terms: []api.Term{{}, {Name: "x"}, {Name: "y"}}, Nons: []string{""}, Start: 4, Prods: []api.Prod{{Left: 3, Right: []int{4}}}}
		for i := range places {
			g.Nons = append(g.Nons, "n"+strconv.Itoa(i))
			g.Prods = append(g.Prods, api.Prod{Left: 4 + i, Right: []int{1, 5 + i}}, api.Prod{Left: 4 + i, Right: []int{2, 5 + i}})
		}
		g.Prods[len(g.Prods)-2].Right, g.Prods[len(g.Prods)-1].Right = []int{1}, []int{2}
		g.Prods[2].Right = []int{2, 4}
		g.Prods = append(g.Prods, api.Prod{Left: 4, Right: []int{1, 4}})
		return g
	}
	if a, err := lr0.Build(far(3)); err != api.OK || len(a.States) < 8 {
		t.Errorf("of three places there are %d states, %d", len(a.States), err)
	}
	for places := 10; places < api.MaxProds/2; places++ {
		wantBuildError(t, strconv.Itoa(places)+" places", far(places), api.ErrTooBig)
	}
}

// ways is a closed grammar of so many terminals x, s : x | y | .. .
func ways(terms int) api.Grammar {
	g := api.Grammar{Terms: []api.Term{{}}, Nons: []string{"", "s"}, Start: terms + 2, Prods: []api.Prod{{Left: terms + 1, Right: []int{terms + 2}}}}
	for i := range terms {
		g.Terms = append(g.Terms, api.Term{Name: "t" + strconv.Itoa(i)})
		g.Prods = append(g.Prods, api.Prod{Left: terms + 2, Right: []int{1 + i}})
	}
	return g
}

func TestTheMostSymbols(t *testing.T) {
	const terms = api.MaxSyms - 1
	a := wantSize(t, "all terminals that may be", ways(terms), terms+2, terms+1)
	for i := range terms {
		if edge := a.States[0].Edges[i]; edge != (api.Edge{Sym: 1 + i, To: 1 + i}) || told(a.States[1+i].Kernel) != strconv.Itoa(1+i)+".1" {
			t.Errorf("edge %d leads %v to %v", i, edge, a.States[1+i])
		}
	}
	wantGoto(t, ways(terms), terms+2, "0.0", "0.1")
	wantGoto(t, ways(terms), terms, "0.0", strconv.Itoa(terms)+".1")
	wantGotoArg(t, "a symbol behind all", ways(terms), terms+3, api.Item{})
	wantArg(t, "a symbol too many", ways(terms+1))
}

func TestTheMostNonterminals(t *testing.T) {
	const nons = api.MaxSyms
	g := api.Grammar{Terms: []api.Term{{}}, Nons: []string{""}, Start: 1 + nons, Prods: []api.Prod{{Left: 1, Right: []int{1 + nons}}}}
	var all []string
	for i := range nons {
		g.Nons = append(g.Nons, "n"+strconv.Itoa(i))
		g.Prods = append(g.Prods, api.Prod{Left: 2 + i, Right: []int{1 + i}})
		all = append(all, strconv.Itoa(1+i)+".0")
	}
	g.Prods[1].Right = nil
	wantClosure(t, g, "0.0", "0.0 "+strings.Join(all, " "))
	wantClosure(t, g, strconv.Itoa(nons)+".0", strings.Join(all, " "))
	wantSize(t, "each leads to the one ahead of it", g, nons+1, nons)
}

func TestTheMostProductions(t *testing.T) {
	g := ways(api.MaxSyms - 1)
	added := len(g.Terms)
	for i := 0; len(g.Prods) <= api.MaxProds; i++ {
		g.Prods = append(g.Prods, api.Prod{Left: added + 1, Right: []int{1 + i, 1}})
	}
	// The last ones stand in the states of the first ones.
	more := api.MaxProds - (api.MaxSyms - 1)
	a := wantSize(t, "all productions that may be", g, api.MaxSyms+1+more, api.MaxSyms+more)
	if got := told(a.States[more].Kernel); got != strconv.Itoa(more)+".1 "+strconv.Itoa(api.MaxProds)+".1" {
		t.Errorf("the kernel behind symbol %d is %s", more, got)
	}
	last := strconv.Itoa(api.MaxProds)
	wantClosure(t, g, last+".2", last+".2")
	wantGoto(t, g, 1, last+".1", last+".2")
	wantClosureArg(t, "a production behind all", g, api.Item{Prod: api.MaxProds + 1})
	g.Prods = append(g.Prods, api.Prod{Left: added + 1})
	wantArg(t, "a production too many", g)
}

// R6

func TestNoGrammar(t *testing.T) {
	wantArg(t, "nothing", api.Grammar{})
	wantArg(t, "an end marker alone", api.Grammar{Terms: []api.Term{{}}})
	for what, spoil := range map[string]func(g *api.Grammar){
		"no end marker":               func(g *api.Grammar) { g.Terms[0].Name = "w" },
		"two texts alike":             func(g *api.Grammar) { g.Terms[2].Name = g.Terms[1].Name },
		"a text with a quote":         func(g *api.Grammar) { g.Terms[1].Name = "'" },
		"a terminal's level too high": func(g *api.Grammar) { g.Terms[1].Level = 1 },
		"a name that is none":         func(g *api.Grammar) { g.Nons[1] = "9" },
		"two names alike":             func(g *api.Grammar) { g.Nons[2] = g.Nons[1] },
		"a level of nobody":           func(g *api.Grammar) { g.Levels = []int{api.Left} },
		"a side that is none":         func(g *api.Grammar) { g.Terms[1].Level, g.Levels = 1, []int{4} },
		"no productions":              func(g *api.Grammar) { g.Prods = nil },
		"the added production alone":  func(g *api.Grammar) { g.Prods = g.Prods[:1] },
		"no added production":         func(g *api.Grammar) { g.Prods = g.Prods[1:] },
		"no added one":                func(g *api.Grammar) { g.Nons[0] = "n" },
		"an added one with a level":   func(g *api.Grammar) { g.Prods[0].Level = 1 },
		"an added one of another row": func(g *api.Grammar) { g.Prods[0].Right = []int{5} },
		"an added one of two symbols": func(g *api.Grammar) { g.Prods[0].Right = []int{4, 4} },
		"an added one of the empty":   func(g *api.Grammar) { g.Prods[0].Right = nil },
		"an added one that starts":    func(g *api.Grammar) { g.Start = 3 },
		"an added one in a right":     func(g *api.Grammar) { g.Prods[1].Right[0] = 3 },
		"an added one twice a left":   func(g *api.Grammar) { g.Prods[2].Left = 3 },
		"an added one elsewhere":      func(g *api.Grammar) { g.Nons[0], g.Nons[1] = g.Nons[1], g.Nons[0] },
		"a name too many":             func(g *api.Grammar) { g.Nons = append(g.Nons, "n") },
		"a terminal for a left":       func(g *api.Grammar) { g.Prods[1].Left = 1 },
		"a left that is nothing":      func(g *api.Grammar) { g.Prods[1].Left = math.MaxInt },
		"the end marker in a right":   func(g *api.Grammar) { g.Prods[1].Right[0] = 0 },
		"a symbol below all":          func(g *api.Grammar) { g.Prods[1].Right[0] = -1 },
		"a symbol behind all":         func(g *api.Grammar) { g.Prods[1].Right[0] = len(g.Terms) + len(g.Nons) },
		"a symbol far above":          func(g *api.Grammar) { g.Prods[1].Right[0] = math.MaxInt },
		"a production's level":        func(g *api.Grammar) { g.Prods[1].Level = 1 },
		"a start that is a terminal":  func(g *api.Grammar) { g.Start = 1 },
		"a start that is nothing":     func(g *api.Grammar) { g.Start = math.MinInt },
		"a start behind all":          func(g *api.Grammar) { g.Start = len(g.Terms) + len(g.Nons) },
	} {
		g := readClosed(t, "A : B A | 'x' ; B : A 'y' | ;")
		spoil(&g)
		wantArg(t, "a closed grammar with "+what, g)
	}
}

// What is plain is never closed.
func TestPlainGrammars(t *testing.T) {
	for _, text := range []string{"A : ;", "A : A ;", "A : B ; B : A | 'x' ;", "%left '+'; e : e '+' e | n ;"} {
		wantArg(t, "the plain grammar "+text, read(t, text))
	}
}

// R1: rows that share memory may stand for far more than there is, and kernels may have many items.

func TestRowsThatShareMemory(t *testing.T) {
	g := row(1)
	long := slices.Repeat([]int{1}, 1<<16)
	g.Prods[2].Right = long
	for len(g.Prods) <= api.MaxProds {
		g.Prods = append(g.Prods, api.Prod{Left: 3, Right: long})
	}
	wantBuildError(t, "rows that are far too long", g, api.ErrTooBig)
	items := itemsOf(t, "0.0 96.65535 96.65536 7.30000")
	if got, err := lr0.Goto(g, 1, items...); err != api.OK || len(got) != api.MaxProds+2 || told(got[len(got)-2:]) != "96.1 96.65536" {
		t.Errorf("Goto is %s, %d", told(got), err)
	}
	wantClosureArg(t, "a Dot far behind", g, api.Item{Prod: 96, Dot: 1<<16 + 1})
	for i := range g.Prods[2:] {
		g.Prods[2+i].Right = long[:api.MaxStates-3]
	}
	a := wantSize(t, "rows that are just short enough", g, api.MaxStates, 2*api.MaxStates-4)
	most := 0
	for _, state := range a.States {
		most = max(most, len(state.Kernel))
	}
	if want := 1 + (api.MaxProds-1)*(api.MaxStates-3); most != want {
		t.Errorf("the greatest kernel has %d items, not %d", most, want)
	}
}

func TestManyItems(t *testing.T) {
	g := readClosed(t, "a : a a a | 'x' ;")
	items := slices.Repeat(itemsOf(t, "1.3 2.1 1.2 0.1 1.1"), 1<<16)
	if got, err := lr0.Closure(g, items...); err != api.OK || told(got) != "0.1 1.0 1.1 1.2 1.3 2.0 2.1" {
		t.Errorf("Closure is %d items, %d", len(got), err)
	}
	if got, err := lr0.Goto(g, 3, items...); err != api.OK || told(got) != "1.1 1.2 1.3" {
		t.Errorf("Goto is %d items, %d", len(got), err)
	}
	items[len(items)/2].Dot = 9
	wantClosureArg(t, "one bad item among many", g, items...)
	wantGotoArg(t, "one bad item among many", g, 1, items...)
}

// R3

// roomy is a grammar whose lists all have spare room, with marks in it.
func roomy(g api.Grammar) api.Grammar {
	g = gram.Copy(g)
	g.Terms = append(g.Terms, api.Term{Name: "spare"})[:len(g.Terms)]
	g.Nons = append(g.Nons, "spare")[:len(g.Nons)]
	g.Levels = append(g.Levels, 77)[:len(g.Levels)]
	for i, p := range g.Prods {
		g.Prods[i].Right = append(p.Right, 77)[:len(p.Right)]
	}
	g.Prods = append(g.Prods, api.Prod{Left: 77})[:len(g.Prods)]
	return g
}

func isUntouched(g, want api.Grammar) bool {
	for i, p := range g.Prods {
		if p.Right[:len(want.Prods[i].Right)+1][len(want.Prods[i].Right)] != 77 {
			return false
		}
	}
	return gram.Same(g, want) && g.Terms[:len(g.Terms)+1][len(g.Terms)].Name == "spare" && g.Nons[:len(g.Nons)+1][len(g.Nons)] == "spare" &&
		g.Levels[:len(g.Levels)+1][len(g.Levels)] == 77 && g.Prods[:len(g.Prods)+1][len(g.Prods)].Left == 77
}

func TestWhatIsHandedInIsNotChanged(t *testing.T) {
	want := readClosed(t, "%left '+'; %right '*'; s : s '+' s | a s '*' | a ; a : b b | 'x' ; b : | a 'y' | s ;")
	g := roomy(want)
	wantItems := slices.Repeat(itemsOf(t, "9.1 3.1 0.0 3.1 1.2 5.0 2.1"), 3)
	items := slices.Clone(wantItems)
	given := items[:7]
	lr0.Build(g)
	lr0.Closure(g, given...)
	for sym := range 8 {
		lr0.Goto(g, sym, given...)
	}
	lr0.Closure(g, given[:0]...)
	lr0.Closure(g, append(given, api.Item{Prod: -1})[:7]...)
	wantItems[7].Prod, wantItems[7].Dot = -1, 0
	if !isUntouched(g, want) {
		t.Errorf("the grammar became %v, it was %v", g, want)
	}
	if !slices.Equal(items, wantItems) {
		t.Errorf("the items became %s, they were %s", told(items), told(wantItems))
	}
}

// overwrite writes over a list, spare room too.
func overwrite[T any](list []T) {
	var nothing T
	for i := range cap(list) {
		list[:cap(list)][i] = nothing
	}
}

func TestClosuresAreNewMemory(t *testing.T) {
	g := roomy(readClosed(t, "a : a a a | 'x' ;"))
	given := itemsOf(t, "1.1 1.2 1.3 2.0 2.1")
	for count := range len(given) + 1 {
		want := slices.Clone(given)
		closure, _ := lr0.Closure(g, given[:count]...)
		overwrite(closure)
		kernel, _ := lr0.Goto(g, 3, given[:count]...)
		overwrite(kernel)
		if !slices.Equal(given, want) {
			t.Fatalf("what is answered of %s is what is given", told(want[:count]))
		}
	}
	wantClosure(t, g, "1.2", "1.0 1.2 2.0")
	wantGoto(t, g, 3, "1.2", "1.1 1.3")
}

func TestStatesAreNewMemory(t *testing.T) {
	g := roomy(readClosed(t, "%left '+'; e : e '+' e | f ; f : 'n' f | '(' e ')' | ;"))
	want, _ := lr0.Build(g)
	for at := range want.States {
		for _, spoil := range []func(state *api.State){
			func(state *api.State) { overwrite(state.Kernel) },
			func(state *api.State) { overwrite(state.Edges) },
		} {
			a, _ := lr0.Build(g)
			spoil(&a.States[at])
			for i, state := range a.States {
				sameKernel, sameEdges := slices.Equal(state.Kernel, want.States[i].Kernel), slices.Equal(state.Edges, want.States[i].Edges)
				if i != at && !(sameKernel && sameEdges) || !sameKernel && !sameEdges {
					t.Errorf("the lists of the states %d and %d are one", at, i)
				}
			}
		}
	}
	overwrite(want.States)
	wantSize(t, "built again", g, 10, 19)
}
