package trans_test

import (
	"math"
	"slices"
	"strconv"
	"strings"
	"testing"

	"presage/api"
	"presage/gram"
	"presage/spec"
	"presage/trans"
)

// read is the grammar of a text.
func read(t *testing.T, text string) api.Grammar {
	t.Helper()
	g, mishap := spec.Read(text)
	if mishap.Code != api.OK {
		t.Fatalf("Read(%q) answers %v", text, mishap)
	}
	return g
}

// readClosed is the closed grammar of a text: that with the added one and the added production, and all else, be it of use or not.
func readClosed(t *testing.T, text string) api.Grammar {
	t.Helper()
	g := read(t, text)
	added := len(g.Terms)
	moved := func(sym int) int {
		if sym >= added {
			return sym + 1
		}
		return sym
	}
	c := api.Grammar{Terms: g.Terms, Levels: g.Levels, Start: moved(g.Start)}
	c.Nons = append([]string{""}, g.Nons...)
	c.Prods = []api.Prod{{Left: added, Right: []int{c.Start}}}
	for _, p := range g.Prods {
		var right []int
		for _, sym := range p.Right {
			right = append(right, moved(sym))
		}
		c.Prods = append(c.Prods, api.Prod{Left: moved(p.Left), Right: right, Level: p.Level})
	}
	return c
}

// sum is the chapter's: + 1, n 2, the added one 3, e 4.
func sum(t *testing.T) api.Grammar {
	t.Helper()
	return readClosed(t, "e : e '+' n | n ;")
}

// around is that of chapter 11: x 1, y 2, the added one 3, s 4, a 5, b 6; state 1 is behind x, 2 behind s, 3 behind a, 4 behind a s, 5 behind a s y, 6 behind a s b.
func around(t *testing.T) api.Grammar {
	t.Helper()
	return readClosed(t, "s : a s b | 'x' ; a : ; b : | 'y' ;")
}

// told are numbers as a text, with blanks between them.
func told(numbers []int) string {
	var words []string
	for _, n := range numbers {
		words = append(words, strconv.Itoa(n))
	}
	return strings.Join(words, " ")
}

// toldList are transitions as a text: State.Sym each.
func toldList(list []api.Trans) string {
	var words []string
	for _, one := range list {
		words = append(words, strconv.Itoa(one.State)+"."+strconv.Itoa(one.Sym))
	}
	return strings.Join(words, " ")
}

// toldDirect are lists of terminals as a text, a / between two of them.
func toldDirect(lists [][]int) string {
	var words []string
	for _, list := range lists {
		words = append(words, told(list))
	}
	return strings.Join(words, "/")
}

func wantList(t *testing.T, g api.Grammar, want string) {
	t.Helper()
	if got, err := trans.List(g); err != api.OK || toldList(got) != want {
		t.Errorf("List(%v) is %s, %d; want %s", g, toldList(got), err, want)
	}
}

func wantDirect(t *testing.T, g api.Grammar, want string) {
	t.Helper()
	if got, err := trans.Direct(g); err != api.OK || toldDirect(got) != want {
		t.Errorf("Direct(%v) is %s, %d; want %s", g, toldDirect(got), err, want)
	}
}

func wantWalk(t *testing.T, g api.Grammar, want, from int, syms ...int) {
	t.Helper()
	if got, err := trans.Walk(g, from, syms...); err != api.OK || got != want {
		t.Errorf("Walk(%v, %d, %v) is %d, %d; want %d", g, from, syms, got, err, want)
	}
}

func wantWalkError(t *testing.T, what string, g api.Grammar, want api.Errno, from int, syms ...int) {
	t.Helper()
	if got, err := trans.Walk(g, from, syms...); err != want || got != 0 {
		t.Errorf("Walk of %s, from %d by %d symbols, is %d, %d; want %d alone", what, from, len(syms), got, err, want)
	}
}

// wantError wants that all calls answer that error alone, whatever states and symbols are asked.
func wantError(t *testing.T, what string, g api.Grammar, want api.Errno) {
	t.Helper()
	if got, err := trans.List(g); err != want || len(got) != 0 {
		t.Errorf("List of %s is %v, %d; want %d alone", what, got, err, want)
	}
	if got, err := trans.Direct(g); err != want || len(got) != 0 {
		t.Errorf("Direct of %s is %v, %d; want %d alone", what, got, err, want)
	}
	for _, from := range []int{0, 1, -1, api.MaxStates - 1, api.MaxStates, math.MaxInt, math.MinInt} {
		for _, syms := range [][]int{nil, {0}, {1}, {-1}, {math.MaxInt}, {1, 2, 3}, {1, -1, 1}} {
			wantWalkError(t, what, g, want, from, syms...)
		}
	}
}

// P10.1

func TestListOfTheExample(t *testing.T) {
	wantList(t, sum(t), "0.4")
	wantList(t, around(t), "0.4 0.5 3.4 3.5 4.6")
}

func TestLists(t *testing.T) {
	for _, c := range []struct{ text, want string }{
		{"a : ;", "0.2"},
		{"a : 'x' ;", "0.3"},
		{"a : a ;", "0.2"},
		{"a : a | a ;", "0.2"},
		{"a : 'x' a | ;", "0.3 1.3"},
		// Several states have a transition of one nonterminal, and two may lead to one state.
		{"a : a a a | 'x' ;", "0.3 2.3 3.3 4.3"},
		{"s : 'x' s 'x' | 'y' s 'y' | 'z' ;", "0.5 1.5 2.5"},
		{"%left '+'; e : e '+' e %none | n ;", "0.4 3.4"},
		// One state has transitions of several ones.
		{"s : a 'x' | 'y' a 'z' | b 'z' | 'y' b 'x' ; a : 'w' ; b : 'w' ;", "0.6 0.7 0.8 1.7 1.8"},
		// What is reached from nowhere has none; what derives nothing has.
		{"s : 'x' ; t : 'y' t ;", "0.4"},
		{"s : t | 'x' ; t : 'y' t ;", "0.4 0.5 2.5"},
		// The start symbol may be any.
		{"%start b; a : 'x' ; b : 'y' a ;", "0.5 1.4"},
		{"%start b; a : 'x' b ; b : a | 'y' ;", "0.4 0.5 1.4 1.5"},
	} {
		wantList(t, readClosed(t, c.text), c.want)
	}
}

// The nonterminals of a closed grammar may stand in any order, and so may its productions.
func TestAClosedGrammarOfItsOwnOrder(t *testing.T) {
	g := api.Grammar{
		Terms: []api.Term{{}, {Name: "x"}, {Name: "y"}},
		Nons:  []string{"", "b", "a"},
		Start: 5,
		Prods: []api.Prod{{Left: 3, Right: []int{5}}, {Left: 5, Right: []int{4, 1}}, {Left: 4, Right: []int{2}}, {Left: 5, Right: []int{4, 5}}},
	}
	// State 1 is behind y, 2 behind b, 3 behind a, 4 behind b x, 5 behind b a.
	wantList(t, g, "0.4 0.5 2.4 2.5")
	wantDirect(t, g, "1 2/0/1 2/")
	wantWalk(t, g, 4, 0, 4, 4, 4, 1)
	wantWalk(t, g, 5, 0, 4, 5)
	// A terminal may have a nonterminal's name for its text.
	g.Terms[1].Name = "a"
	wantList(t, g, "0.4 0.5 2.4 2.5")
	wantDirect(t, g, "1 2/0/1 2/")
}

// P10.2

func TestWalkOfTheExample(t *testing.T) {
	g := sum(t)
	wantWalk(t, g, 0, 0)
	wantWalk(t, g, 2, 0, 4)
	wantWalk(t, g, 4, 0, 4, 1, 2)
	wantWalk(t, g, -1, 0, 1)
	wantWalk(t, g, -1, 0, 0)
	wantWalkError(t, "the sum", g, api.ErrArg, 5)
	wantWalkError(t, "the sum", g, api.ErrArg, 0, 9)
}

func TestWalks(t *testing.T) {
	g := around(t)
	for _, c := range []struct {
		from int
		syms []int
		want int
	}{
		{0, []int{1}, 1},
		{0, []int{4}, 2},
		{0, []int{5}, 3},
		{0, []int{5, 5, 5, 5}, 3},
		{0, []int{5, 4}, 4},
		{0, []int{5, 5, 4, 2}, 5},
		{0, []int{5, 4, 6}, 6},
		{0, []int{5, 1}, 1},
		// From whatever state.
		{3, []int{4}, 4},
		{3, []int{4, 6}, 6},
		{3, []int{5, 5, 1}, 1},
		{4, []int{2}, 5},
		{4, []int{6}, 6},
		// The first, a middle one or the last has no edge.
		{0, []int{2}, -1},
		{0, []int{6}, -1},
		{0, []int{2, 5, 4}, -1},
		{0, []int{5, 4, 4, 6}, -1},
		{0, []int{5, 2, 4}, -1},
		{0, []int{5, 4, 6, 1}, -1},
		{0, []int{1, 1}, -1},
		{4, []int{1}, -1},
		{6, []int{6}, -1},
		// Behind s from state 0 there is nothing, behind s from state 3 there is.
		{0, []int{4, 6}, -1},
		{2, []int{6}, -1},
		{3, []int{4, 2}, 5},
	} {
		wantWalk(t, g, c.want, c.from, c.syms...)
	}
}

func TestWalksOfNoSymbols(t *testing.T) {
	for from := range 7 {
		wantWalk(t, around(t), from, from)
		wantWalk(t, around(t), from, from, []int{}...)
	}
}

// The end marker and the added one are symbols, but no state has an edge of them.
func TestSymbolsWithoutEdges(t *testing.T) {
	g := around(t)
	for from := range 7 {
		for _, sym := range []int{0, 3} {
			wantWalk(t, g, -1, from, sym)
			wantWalk(t, g, -1, from, sym, sym)
			wantWalk(t, g, -1, from, sym, 5)
			wantWalk(t, g, -1, 0, 5, sym)
			wantWalk(t, g, -1, 0, 5, sym, 4)
		}
	}
	wantWalk(t, g, -1, 2, 0)
	wantWalk(t, g, -1, 0, 4, 0)
}

func TestNoStates(t *testing.T) {
	g := around(t)
	for _, from := range []int{-1, -2, 7, 8, api.MaxStates, math.MaxInt, math.MinInt, 1 << 32, -1 << 32} {
		wantWalkError(t, "no state", g, api.ErrArg, from)
		wantWalkError(t, "no state", g, api.ErrArg, from, 5)
		wantWalkError(t, "no state", g, api.ErrArg, from, 0)
		wantWalkError(t, "no state and no symbol", g, api.ErrArg, from, 7)
	}
	wantWalk(t, g, 6, 6)
}

// A symbol that is none is an error wherever it stands, behind a way that is lost too.
func TestNoSymbols(t *testing.T) {
	g := around(t)
	for _, sym := range []int{-1, -2, 7, 8, 9, math.MaxInt, math.MinInt, 1 << 32, -1 << 32} {
		wantWalkError(t, "no symbol", g, api.ErrArg, 0, sym)
		wantWalkError(t, "no symbol behind one", g, api.ErrArg, 0, 5, sym)
		wantWalkError(t, "no symbol ahead of one", g, api.ErrArg, 0, sym, 5)
		wantWalkError(t, "no symbol between two", g, api.ErrArg, 0, 5, sym, 4)
		wantWalkError(t, "no symbol where no edge is", g, api.ErrArg, 6, sym)
		wantWalkError(t, "no symbol behind a way that is lost", g, api.ErrArg, 0, 2, sym)
		wantWalkError(t, "no symbol behind the end marker", g, api.ErrArg, 0, 0, sym)
		wantWalkError(t, "no symbol far behind", g, api.ErrArg, 0, append(slices.Repeat([]int{5}, 1000), sym)...)
	}
	wantWalk(t, g, -1, 0, 6)
}

// P10.3

func TestDirectOfTheExample(t *testing.T) {
	wantDirect(t, sum(t), "0 1")
	wantDirect(t, around(t), "0/1/2/1/")
}

func TestDirects(t *testing.T) {
	for _, c := range []struct{ text, want string }{
		{"a : ;", "0"},
		{"a : 'x' ;", "0"},
		{"a : a ;", "0"},
		// The end marker is the start symbol's in state 0 alone: neither its elsewhere, nor another one's there.
		{"a : 'x' a | ;", "0/"},
		{"a : a a a | 'x' ;", "0 1/1/1/1"},
		{"s : 'x' s 'x' | 'y' s 'y' | 'z' ;", "0/1/2"},
		{"%left '+'; e : e '+' e %none | n ;", "0 1/1"},
		{"s : t | 'x' ; t : 'y' t ;", "0//"},
		{"%start b; a : 'x' ; b : 'y' a ;", "0/"},
		{"%start b; a : 'x' b ; b : a | 'y' ;", "/0//"},
		// What may vanish lets nothing behind it through.
		{"s : a b 'x' ; a : ; b : 'y' | ;", "0/2/1"},
		// By the state that is led to, not by the nonterminal.
		{"s : a 'x' | 'y' a 'z' | b 'z' | 'y' b 'x' ; a : 'w' ; b : 'w' ;", "0/1/3/3/1"},
		// Terminals, be there nonterminal edges too, each once, rising.
		{"%token x y z; s : a 'z' | a 'x' | a b | a 'x' s ; b : 'z' 'z' | 'y' ; a : 'x' ;", "0/1 2 3///1 2 3"},
	} {
		wantDirect(t, readClosed(t, c.text), c.want)
	}
}

// The bounds

// row is a closed grammar of productions 1 and 2, s : x s | x .. x, with that many x in the second: as many states behind x, state 0, and two behind s.
func row(length int) api.Grammar {
	return api.Grammar{
		Terms: []api.Term{{}, {Name: "x"}},
		Nons:  []string{"", "s"},
		Start: 3,
		Prods: []api.Prod{{Left: 2, Right: []int{3}}, {Left: 3, Right: []int{1, 3}}, {Left: 3, Right: slices.Repeat([]int{1}, length)}},
	}
}

// From state 0 x leads to 1, s to 2; from 1 x to 3, s to 4; then x always to a state more, s always to 4.
func TestTheMostStates(t *testing.T) {
	const length = api.MaxStates - 3
	g := row(length)
	want := []api.Trans{{State: 0, Sym: 3}, {State: 1, Sym: 3}, {State: 3, Sym: 3}}
	for state := 5; state < api.MaxStates; state++ {
		want = append(want, api.Trans{State: state, Sym: 3})
	}
	wantList(t, g, toldList(want))
	wantDirect(t, g, "0"+strings.Repeat("/", len(want)-1))
	for _, count := range []int{3, 4, 100, length - 1, length} {
		wantWalk(t, g, count+2, 0, slices.Repeat([]int{1}, count)...)
	}
	wantWalk(t, g, api.MaxStates-1, api.MaxStates-1)
	wantWalk(t, g, 4, api.MaxStates-1, 3)
	wantWalkError(t, "a state behind the last", g, api.ErrArg, api.MaxStates)
}

// ErrTooBig comes ahead of what is wrong with a state or a symbol, and behind what is wrong with the grammar.
func TestTooManyStates(t *testing.T) {
	for _, length := range []int{api.MaxStates - 2, api.MaxStates - 1, 1 << 16} {
		wantError(t, "a row of "+strconv.Itoa(length), row(length), api.ErrTooBig)
	}
	g := row(api.MaxStates)
	g.Prods[1].Level = 1
	wantError(t, "a grammar that is not closed, of too many states", g, api.ErrArg)
	wantError(t, "a plain one of too many states", read(t, "s : "+strings.Repeat("x ", api.MaxStates)+";"), api.ErrArg)
}

func TestTheMostTerminals(t *testing.T) {
	const terms = api.MaxSyms - 1
	g := api.Grammar{Terms: []api.Term{{}}, Nons: []string{"", "s"}, Start: terms + 2, Prods: []api.Prod{{Left: terms + 1, Right: []int{terms + 2}}}}
	var all []int
	for i := range terms {
		g.Terms = append(g.Terms, api.Term{Name: "t" + strconv.Itoa(i)})
		g.Prods = append(g.Prods, api.Prod{Left: terms + 2, Right: []int{terms + 2, terms - i}})
		all = append(all, 1+i)
	}
	wantList(t, g, "0."+strconv.Itoa(terms+2))
	wantDirect(t, g, "0 "+told(all))
	for _, term := range all {
		wantWalk(t, g, 1+term, 0, terms+2, term)
		wantWalk(t, g, -1, 0, term)
	}
	wantWalkError(t, "a symbol behind all", g, api.ErrArg, 0, terms+2, terms+3)
	g.Terms = append(g.Terms, api.Term{Name: "more"})
	wantError(t, "a symbol too many", g, api.ErrArg)
}

func TestTheMostNonterminals(t *testing.T) {
	const nons = api.MaxSyms
	g := api.Grammar{Terms: []api.Term{{}}, Nons: []string{""}, Start: 1 + nons, Prods: []api.Prod{{Left: 1, Right: []int{1 + nons}}}}
	var all []api.Trans
	for i := range nons {
		g.Nons = append(g.Nons, "n"+strconv.Itoa(i))
		g.Prods = append(g.Prods, api.Prod{Left: 2 + i, Right: []int{1 + i}})
		all = append(all, api.Trans{State: 0, Sym: 2 + i})
	}
	g.Prods[1].Right = nil
	wantList(t, g, toldList(all))
	wantDirect(t, g, strings.Repeat("/", nons-1)+"0")
	wantWalk(t, g, nons, 0, 1+nons)
	wantWalkError(t, "a symbol behind all", g, api.ErrArg, 0, 2+nons)
}

// R1: ways may be far longer than there are states, and rows may share memory.

func TestLongWays(t *testing.T) {
	g := row(5)
	long := slices.Repeat([]int{1}, 1<<20)
	wantWalk(t, g, 7, 0, long...)
	wantWalk(t, g, 4, 0, append(long, 3)...)
	long[1<<19] = 0
	wantWalk(t, g, -1, 0, long...)
	long[1<<20-1] = 4
	wantWalkError(t, "one bad symbol among many", g, api.ErrArg, 0, long...)
}

func TestRowsThatShareMemory(t *testing.T) {
	g := row(1)
	long := slices.Repeat([]int{1}, 1<<16)
	for len(g.Prods) <= api.MaxProds {
		g.Prods = append(g.Prods, api.Prod{Left: 3, Right: long})
	}
	wantWalkError(t, "rows that are far too long", g, api.ErrTooBig, 0, long...)
	for i := range g.Prods[2:] {
		g.Prods[2+i].Right = long[:api.MaxStates-3]
	}
	wantWalk(t, g, api.MaxStates-1, 0, long...)
	if list, err := trans.List(g); err != api.OK || len(list) != api.MaxStates-2 {
		t.Errorf("there are %d transitions, %d", len(list), err)
	}
	if direct, err := trans.Direct(g); err != api.OK || toldDirect(direct) != "0"+strings.Repeat("/", api.MaxStates-3) {
		t.Errorf("the direct ones are %s, %d", toldDirect(direct), err)
	}
}

// R6

func TestNoGrammar(t *testing.T) {
	wantError(t, "nothing", api.Grammar{}, api.ErrArg)
	wantError(t, "an end marker alone", api.Grammar{Terms: []api.Term{{}}}, api.ErrArg)
	for what, spoil := range map[string]func(g *api.Grammar){
		"no end marker":               func(g *api.Grammar) { g.Terms[0].Name = "w" },
		"two texts alike":             func(g *api.Grammar) { g.Terms[2].Name = g.Terms[1].Name },
		"a terminal's level too high": func(g *api.Grammar) { g.Terms[1].Level = 1 },
		"a name that is none":         func(g *api.Grammar) { g.Nons[1] = "9" },
		"two names alike":             func(g *api.Grammar) { g.Nons[2] = g.Nons[1] },
		"a level of nobody":           func(g *api.Grammar) { g.Levels = []int{api.Left} },
		"no productions":              func(g *api.Grammar) { g.Prods = nil },
		"the added production alone":  func(g *api.Grammar) { g.Prods = g.Prods[:1] },
		"no added production":         func(g *api.Grammar) { g.Prods = g.Prods[1:] },
		"no added one":                func(g *api.Grammar) { g.Nons[0] = "n" },
		"an added one of another row": func(g *api.Grammar) { g.Prods[0].Right = []int{5} },
		"an added one of the empty":   func(g *api.Grammar) { g.Prods[0].Right = nil },
		"an added one that starts":    func(g *api.Grammar) { g.Start = 3 },
		"an added one in a right":     func(g *api.Grammar) { g.Prods[1].Right[0] = 3 },
		"an added one twice a left":   func(g *api.Grammar) { g.Prods[2].Left = 3 },
		"a name too many":             func(g *api.Grammar) { g.Nons = append(g.Nons, "n") },
		"a terminal for a left":       func(g *api.Grammar) { g.Prods[1].Left = 1 },
		"the end marker in a right":   func(g *api.Grammar) { g.Prods[1].Right[0] = 0 },
		"a symbol below all":          func(g *api.Grammar) { g.Prods[1].Right[0] = -1 },
		"a symbol behind all":         func(g *api.Grammar) { g.Prods[1].Right[0] = len(g.Terms) + len(g.Nons) },
		"a symbol far above":          func(g *api.Grammar) { g.Prods[1].Right[0] = math.MaxInt },
		"a start that is a terminal":  func(g *api.Grammar) { g.Start = 1 },
		"a start that is nothing":     func(g *api.Grammar) { g.Start = math.MinInt },
	} {
		g := readClosed(t, "A : B A | 'x' ; B : A 'y' | ;")
		spoil(&g)
		wantError(t, "a closed grammar with "+what, g, api.ErrArg)
	}
}

// What is plain is never closed.
func TestPlainGrammars(t *testing.T) {
	for _, text := range []string{"A : ;", "A : A ;", "A : B ; B : A | 'x' ;", "%left '+'; e : e '+' e | n ;"} {
		wantError(t, "the plain grammar "+text, read(t, text), api.ErrArg)
	}
}

// R3

// roomy is a grammar whose lists all have spare room, with marks in it.
func roomy(g api.Grammar) api.Grammar {
	g = gram.Copy(g)
	g.Terms = append(g.Terms, api.Term{Name: "spare"})[:len(g.Terms)]
	g.Nons = append(g.Nons, "spare")[:len(g.Nons)]
	g.Levels = append(g.Levels, 77)[:len(g.Levels)]
	for i, p := range g.Prods {
		g.Prods[i].Right = append(p.Right, 77)[:len(p.Right)]
	}
	g.Prods = append(g.Prods, api.Prod{Left: 77})[:len(g.Prods)]
	return g
}

func isUntouched(g, want api.Grammar) bool {
	for i, p := range g.Prods {
		if p.Right[:len(want.Prods[i].Right)+1][len(want.Prods[i].Right)] != 77 {
			return false
		}
	}
	return gram.Same(g, want) && g.Terms[:len(g.Terms)+1][len(g.Terms)].Name == "spare" && g.Nons[:len(g.Nons)+1][len(g.Nons)] == "spare" &&
		g.Levels[:len(g.Levels)+1][len(g.Levels)] == 77 && g.Prods[:len(g.Prods)+1][len(g.Prods)].Left == 77
}

func TestWhatIsHandedInIsNotChanged(t *testing.T) {
	want := readClosed(t, "%left '+'; %right '*'; s : s '+' s | a s '*' | a ; a : b b | 'x' ; b : | a 'y' | s ;")
	g := roomy(want)
	wantSyms := []int{7, 6, 1, 6, 2, -1, 77}
	syms := slices.Clone(wantSyms)
	trans.List(g)
	trans.Direct(g)
	for count := range len(syms) {
		for from := range 4 {
			trans.Walk(g, from, syms[:count]...)
		}
	}
	if !isUntouched(g, want) {
		t.Errorf("the grammar became %v, it was %v", g, want)
	}
	if !slices.Equal(syms, wantSyms) {
		t.Errorf("the symbols became %v, they were %v", syms, wantSyms)
	}
}

// overwrite writes over a list, spare room too.
func overwrite[T any](list []T, by T) {
	for i := range cap(list) {
		list[:cap(list)][i] = by
	}
}

func TestAnswersAreNewMemory(t *testing.T) {
	want := readClosed(t, "%left '+'; e : e '+' e | f ; f : 'n' f | '(' e ')' | e e ;")
	g := roomy(want)
	list, _ := trans.List(g)
	direct, _ := trans.Direct(g)
	toldBefore := toldList(list)
	overwrite(list, api.Trans{State: 55, Sym: 55})
	wantList(t, g, toldBefore)
	for at := range direct {
		spoiled, _ := trans.Direct(g)
		overwrite(spoiled[at], 55)
		for i, terms := range spoiled {
			if i != at && !slices.Equal(terms, direct[i]) {
				t.Errorf("the lists of the transitions %d and %d are one", at, i)
			}
		}
	}
	toldBefore = toldDirect(direct)
	overwrite(direct, nil)
	wantDirect(t, g, toldBefore)
	if !isUntouched(g, want) {
		t.Errorf("the grammar became %v, it was %v", g, want)
	}
}
