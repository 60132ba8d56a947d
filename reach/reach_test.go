package reach_test

import (
	"math"
	"slices"
	"strconv"
	"strings"
	"testing"

	"presage/api"
	"presage/gram"
	"presage/reach"
	"presage/show"
	"presage/spec"
)

// read is the grammar of a text.
func read(t *testing.T, text string) api.Grammar {
	t.Helper()
	g, mishap := spec.Read(text)
	if mishap.Code != api.OK {
		t.Fatalf("Read(%q) answers %v", text, mishap)
	}
	return g
}

// closedOf adds the added one and the added production to a plain grammar.
func closedOf(g api.Grammar) api.Grammar {
	first := len(g.Terms)
	moved := func(sym int) int {
		if sym >= first {
			return sym + 1
		}
		return sym
	}
	c := api.Grammar{Terms: g.Terms, Levels: g.Levels, Start: moved(g.Start)}
	c.Nons = append([]string{""}, g.Nons...)
	c.Prods = []api.Prod{{Left: first, Right: []int{c.Start}}}
	for _, p := range g.Prods {
		var right []int
		for _, sym := range p.Right {
			right = append(right, moved(sym))
		}
		c.Prods = append(c.Prods, api.Prod{Left: moved(p.Left), Right: right, Level: p.Level})
	}
	return c
}

// named are the names of the nonterminals that are marked, of the added one $start.
func named(g api.Grammar, marked []bool) string {
	var names []string
	for i, is := range marked {
		if is && g.Nons[i] == "" {
			names = append(names, "$start")
		} else if is {
			names = append(names, g.Nons[i])
		}
	}
	return strings.Join(names, " ")
}

type markCall func(g api.Grammar) ([]bool, api.Errno)

// wantMarked wants that a call marks the nonterminals of these names alone.
func wantMarked(t *testing.T, what string, call markCall, g api.Grammar, names string) {
	t.Helper()
	marked, err := call(g)
	if err != api.OK || len(marked) != len(g.Nons) {
		t.Errorf("%s of %v is %v, %d; want %d marks", what, g, marked, err, len(g.Nons))
	} else if got := named(g, marked); got != names {
		t.Errorf("%s of %v are %q, want %q", what, g, got, names)
	}
}

// wantMarks wants these marks of a plain grammar, and likewise of what is closed of it.
func wantMarks(t *testing.T, g api.Grammar, productive, useful string) {
	t.Helper()
	wantMarked(t, "Productive", reach.Productive, g, productive)
	wantMarked(t, "Useful", reach.Useful, g, useful)
	c := closedOf(g)
	if useful != "" {
		productive, useful = "$start "+productive, "$start "+useful
	}
	wantMarked(t, "Productive", reach.Productive, c, productive)
	wantMarked(t, "Useful", reach.Useful, c, useful)
}

// wantReduced wants of a reduced grammar the names of its nonterminals but the added one, and its productions but the added one, as texts with their levels behind them.
func wantReduced(t *testing.T, g api.Grammar, nons string, prods ...string) {
	t.Helper()
	c, err := reach.Reduce(g)
	if err != api.OK || !gram.Closed(c) {
		t.Errorf("Reduce(%v) is %v, %d; want one that is closed", g, c, err)
		return
	}
	if !slices.Equal(c.Terms, g.Terms) || !slices.Equal(c.Levels, g.Levels) {
		t.Errorf("Reduce(%v) has the terminals %v and the levels %v", g, c.Terms, c.Levels)
	}
	if c.Nons[0] != "" || strings.Join(c.Nons[1:], " ") != nons {
		t.Errorf("Reduce(%v) has the nonterminals %q, want %q", g, c.Nons, nons)
	}
	start := g.Nons[g.Start-len(g.Terms)]
	if c.Nons[c.Start-len(c.Terms)] != start {
		t.Errorf("Reduce(%v) has the start symbol %d of %q, want %s", g, c.Start, c.Nons, start)
	}
	var texts []string
	for i, p := range c.Prods {
		text, _ := show.Prod(c, i)
		texts = append(texts, text+" "+strconv.Itoa(p.Level))
	}
	if want := append([]string{"$start -> " + start + " 0"}, prods...); !slices.Equal(texts, want) {
		t.Errorf("Reduce(%v) has the productions %q, want %q", g, texts, want)
	}
}

func wantNoneReduced(t *testing.T, what string, g api.Grammar, want api.Errno) {
	t.Helper()
	if c, err := reach.Reduce(g); err != want || !isZero(c) {
		t.Errorf("Reduce of %s is %v, %d; want error %d alone", what, c, err, want)
	}
}

func isZero(g api.Grammar) bool {
	return len(g.Terms)+len(g.Nons)+len(g.Levels)+len(g.Prods)+g.Start == 0
}

// wantArg wants that all calls answer ErrArg alone.
func wantArg(t *testing.T, what string, g api.Grammar) {
	t.Helper()
	for name, call := range map[string]markCall{"Productive": reach.Productive, "Useful": reach.Useful} {
		if marked, err := call(g); err != api.ErrArg || len(marked) != 0 {
			t.Errorf("%s of %s is %v, %d; want ErrArg alone", name, what, marked, err)
		}
	}
	wantNoneReduced(t, what, g, api.ErrArg)
}

// example is the chapter's.
func example(t *testing.T, start string) api.Grammar {
	t.Helper()
	return read(t, "%start "+start+"; S : 'a' | X 'b' ; X : X 'c' ; Y : 'b' Y | 'c' ;")
}

// P6.1

func TestMarksOfTheExamples(t *testing.T) {
	wantMarks(t, example(t, "S"), "S Y", "S")
	wantMarks(t, example(t, "X"), "S Y", "")
	wantMarks(t, example(t, "Y"), "S Y", "Y")
	wantMarks(t, read(t, "S : A | 'x' ; A : ;"), "S A", "S A")
}

func TestMarks(t *testing.T) {
	for _, c := range []struct{ text, productive, useful string }{
		{"s : ;", "s", "s"},
		{"s : 'x' ;", "s", "s"},
		{"s : s ;", "", ""},
		{"s : s | ;", "s", "s"},
		{"s : s s 'x' | 'x' ;", "s", "s"},
		{"s : 'x' s ;", "", ""},
		{"s : a b ; a : 'x' ; b : b ;", "a", ""},
		{"s : b a ; a : 'x' ; b : b ;", "a", ""},
		{"s : a | b ; a : 'x' ; b : b ;", "s a", "s a"},
		{"s : a ; a : b ; b : s ;", "", ""},
		{"s : a ; a : b ; b : s | 'x' ;", "s a b", "s a b"},
		{"%start b; s : a ; a : b ; b : s | 'x' ;", "s a b", "s a b"},
		{"%start b; s : a ; a : b ; b : 'x' ;", "s a b", "b"},
		{"%start a; s : a ; a : b ; b : 'x' ;", "s a b", "a b"},
		{"s : 'x' ; a : s ; b : a a ;", "s a b", "s"},
		{"s : 'x' ; a : s a ;", "s", "s"},
		{"%start a; s : 'x' ; a : s a ;", "s", ""},
		// One that only an unproductive neighbour leads to, on either side of it.
		{"s : 'x' | y d ; y : 'x' ; d : d ;", "s y", "s"},
		{"s : 'x' | d y ; y : 'x' ; d : d ;", "s y", "s"},
		{"s : y d | y ; y : 'x' ; d : d ;", "s y", "s y"},
		{"s : 'x' | d ; y : 'x' ; d : y d ;", "s y", "s"},
		// One that stands in one row twice, and several rows of one nonterminal.
		{"s : a a 'x' a ; a : b b | ; b : b | a ;", "s a b", "s a b"},
		{"s : t t ; t : 'x' d | u ; u : 'y' ; d : t d ; w : u ;", "s t u w", "s t u"},
		// A terminal has a nonterminal's name.
		{"s : 'd' ; d : d ;", "s", "s"},
	} {
		wantMarks(t, read(t, c.text), c.productive, c.useful)
	}
}

func TestMarksOfAClosedGrammarOfItsOwnOrder(t *testing.T) {
	g := api.Grammar{
		Terms: []api.Term{{}, {Name: "x"}},
		Nons:  []string{"", "d", "c", "b", "a"},
		Start: 6,
		Prods: []api.Prod{{Left: 2, Right: []int{6}}, {Left: 6, Right: []int{5, 1}}, {Left: 5, Right: []int{4, 4}}, {Left: 3, Right: []int{6}}, {Left: 4}},
	}
	wantMarked(t, "Productive", reach.Productive, g, "$start d c b a")
	wantMarked(t, "Useful", reach.Useful, g, "$start c b a")
	g.Prods[4].Right = []int{4}
	wantMarked(t, "Productive", reach.Productive, g, "")
	wantMarked(t, "Useful", reach.Useful, g, "")
	g.Prods = append(g.Prods, api.Prod{Left: 5})
	wantMarked(t, "Productive", reach.Productive, g, "$start d b a")
	wantMarked(t, "Useful", reach.Useful, g, "$start b a")
}

// chain is a grammar of so many nonterminals, each of which leads to the next one alone, and the last one to that row.
func chain(length int, last ...int) api.Grammar {
	g := api.Grammar{Terms: []api.Term{{}}, Start: 1}
	for i := range length {
		g.Nons = append(g.Nons, "n"+strconv.Itoa(i))
		g.Prods = append(g.Prods, api.Prod{Left: 1 + i, Right: []int{2 + i}})
	}
	g.Prods[length-1].Right = last
	return g
}

// backward is a chain whose productions stand the other way round: so rows of terminals are derived from the first nonterminal on.
func backward(length int, first ...int) api.Grammar {
	g := chain(length)
	for i := range g.Prods {
		g.Prods[i].Right = []int{i}
	}
	g.Prods[0].Right = first
	g.Start = length
	return g
}

func TestTheLongestChains(t *testing.T) {
	for _, g := range []api.Grammar{chain(api.MaxSyms), backward(api.MaxSyms)} {
		all := strings.Join(g.Nons, " ")
		wantMarks(t, g, all, all)
		var prods []string
		for i := range g.Prods {
			text, _ := show.Prod(g, i)
			prods = append(prods, text+" 0")
		}
		wantReduced(t, g, all, prods...)
	}
	for _, g := range []api.Grammar{chain(api.MaxSyms, api.MaxSyms), chain(api.MaxSyms, 1), backward(api.MaxSyms, 1), backward(api.MaxSyms, api.MaxSyms)} {
		wantMarks(t, g, "", "")
		wantNoneReduced(t, "a chain without an end", g, api.ErrEmpty)
	}
}

func TestWhereAChainIsBegun(t *testing.T) {
	g := chain(api.MaxSyms)
	all := strings.Join(g.Nons, " ")
	for i := range g.Nons {
		g.Start = 1 + i
		wantMarks(t, g, all, strings.Join(g.Nons[i:], " "))
	}
}

func TestTheMostProductions(t *testing.T) {
	g := chain(api.MaxSyms)
	for len(g.Prods) < api.MaxProds-1 {
		g.Prods = append(g.Prods, api.Prod{Left: 1, Right: []int{1}})
	}
	g.Prods[10].Right = []int{11}
	g.Prods = append(g.Prods, api.Prod{Left: 1, Right: []int{50, 50}})
	wantMarks(t, g, strings.Join(append([]string{"n0"}, g.Nons[11:]...), " "), strings.Join(append([]string{"n0"}, g.Nons[49:]...), " "))
	c, err := reach.Reduce(g)
	if err != api.OK || len(c.Nons) != 17 || len(c.Prods) != 1+31+1+15 || !gram.Closed(c) {
		t.Errorf("Reduce is %v, %d", c, err)
	}
}

func TestTheMostTerminals(t *testing.T) {
	g := api.Grammar{Terms: []api.Term{{}}, Nons: []string{"s", "d"}, Start: api.MaxSyms - 1}
	for i := range api.MaxSyms - 2 {
		g.Terms = append(g.Terms, api.Term{Name: "t" + strconv.Itoa(i)})
	}
	last := api.MaxSyms - 2
	g.Prods = []api.Prod{{Left: last + 1, Right: []int{1, last}}, {Left: last + 2, Right: []int{last, last + 2}}}
	wantMarks(t, g, "s", "s")
	wantReduced(t, g, "s", "s -> 't0' 't"+strconv.Itoa(last-1)+"' 0")
}

// P6.1, P6.2

func TestNoGrammar(t *testing.T) {
	wantArg(t, "nothing", api.Grammar{})
	wantArg(t, "an end marker alone", api.Grammar{Terms: []api.Term{{}}})
	for what, spoil := range map[string]func(g *api.Grammar){
		"no end marker":               func(g *api.Grammar) { g.Terms[0].Name = "x" },
		"two texts alike":             func(g *api.Grammar) { g.Terms[2].Name = g.Terms[1].Name },
		"a text with a quote":         func(g *api.Grammar) { g.Terms[1].Name = "'" },
		"a terminal's level too high": func(g *api.Grammar) { g.Terms[1].Level = 1 },
		"a name that is none":         func(g *api.Grammar) { g.Nons[1] = "9" },
		"two names alike":             func(g *api.Grammar) { g.Nons[2] = g.Nons[1] },
		"a level of nobody":           func(g *api.Grammar) { g.Levels = []int{api.Left} },
		"a side that is none":         func(g *api.Grammar) { g.Terms[1].Level, g.Levels = 1, []int{4} },
		"no productions":              func(g *api.Grammar) { g.Prods = nil },
		"a name too many":             func(g *api.Grammar) { g.Nons = append(g.Nons, "Z") },
		"a terminal for a left":       func(g *api.Grammar) { g.Prods[1].Left = 1 },
		"a left that is nothing":      func(g *api.Grammar) { g.Prods[1].Left = math.MaxInt },
		"the end marker in a right":   func(g *api.Grammar) { g.Prods[1].Right[0] = 0 },
		"a symbol below all":          func(g *api.Grammar) { g.Prods[1].Right[0] = -1 },
		"a symbol behind all":         func(g *api.Grammar) { g.Prods[1].Right[0] = len(g.Terms) + len(g.Nons) },
		"a symbol far above":          func(g *api.Grammar) { g.Prods[1].Right[0] = math.MaxInt },
		"a production's level":        func(g *api.Grammar) { g.Prods[1].Level = 1 },
		"a start that is a terminal":  func(g *api.Grammar) { g.Start = 1 },
		"a start that is nothing":     func(g *api.Grammar) { g.Start = math.MinInt },
		"a start behind all":          func(g *api.Grammar) { g.Start = len(g.Terms) + len(g.Nons) },
	} {
		for kind, g := range map[string]api.Grammar{"a plain grammar": example(t, "S"), "a closed grammar": closedOf(example(t, "S"))} {
			spoil(&g)
			wantArg(t, kind+" with "+what, g)
		}
	}
}

func TestMoreThanMayBe(t *testing.T) {
	g := chain(api.MaxSyms + 1)
	wantArg(t, "a plain grammar with a symbol too many", g)
	wantArg(t, "a closed grammar with a symbol too many", closedOf(g))
	g = chain(api.MaxSyms)
	for len(g.Prods) <= api.MaxProds {
		g.Prods = append(g.Prods, api.Prod{Left: 1})
	}
	wantArg(t, "a plain grammar with a production too many", g)
	wantArg(t, "a closed grammar with a production too many", closedOf(g))
}

func TestWhatIsNearlyPlainOrClosed(t *testing.T) {
	plain := read(t, "s : a 'x' ; a : ;")
	closed := closedOf(plain)
	for what, g := range map[string]api.Grammar{
		"nonterminals out of order": {Terms: plain.Terms, Nons: plain.Nons, Start: 2, Prods: []api.Prod{{Left: 3}, {Left: 2}}},
		"an added one alone":        {Terms: plain.Terms, Nons: closed.Nons, Start: 3, Prods: closed.Prods[1:]},
		"an added one that starts":  {Terms: plain.Terms, Nons: closed.Nons, Start: 2, Prods: closed.Prods},
		"an added one with a level": {Terms: []api.Term{{}, {Name: "x", Level: 1}}, Nons: closed.Nons, Levels: []int{1}, Start: 3, Prods: append([]api.Prod{{Left: 2, Right: []int{3}, Level: 1}}, closed.Prods[1:]...)},
		"an added one in a right":   {Terms: plain.Terms, Nons: closed.Nons, Start: 3, Prods: append(closed.Prods[:3:3], api.Prod{Left: 4, Right: []int{2}})},
		"an added one twice a left": {Terms: plain.Terms, Nons: closed.Nons, Start: 3, Prods: append(closed.Prods[:3:3], closed.Prods[0])},
		"an added one further back": {Terms: plain.Terms, Nons: []string{"s", "a", ""}, Start: 2, Prods: append(slices.Clone(plain.Prods), api.Prod{Left: 4, Right: []int{2}})},
	} {
		wantArg(t, "one with "+what, g)
	}
}

// P6.2

func TestReduceOfTheExamples(t *testing.T) {
	wantReduced(t, example(t, "S"), "S", "S -> 'a' 0")
	wantReduced(t, example(t, "Y"), "Y", "Y -> 'b' Y 0", "Y -> 'c' 0")
	wantNoneReduced(t, "the start symbol X", example(t, "X"), api.ErrEmpty)
	wantReduced(t, read(t, "S : A | 'x' ; A : ;"), "S A", "S -> A 0", "S -> 'x' 0", "A -> 0")
}

func TestReduceTellsEveryField(t *testing.T) {
	g := read(t, "%token u; %left '+' v; %right w; %start s; d : s d ; s : s '+' t | d | t w ; t : x %prec w | ; r : t ;")
	want := api.Grammar{
		Terms:  []api.Term{{}, {Name: "u"}, {Name: "+", Level: 1}, {Name: "v", Level: 1}, {Name: "w", Level: 2}, {Name: "x"}},
		Nons:   []string{"", "s", "t"},
		Levels: []int{api.Left, api.Right},
		Start:  7,
		Prods: []api.Prod{
			{Left: 6, Right: []int{7}},
			{Left: 7, Right: []int{7, 2, 8}, Level: 1},
			{Left: 7, Right: []int{8, 4}, Level: 2},
			{Left: 8, Right: []int{5}, Level: 2},
			{Left: 8},
		},
	}
	if c, err := reach.Reduce(g); err != api.OK || !gram.Same(c, want) {
		t.Errorf("Reduce is %v, %d; want %v", c, err, want)
	}
}

func TestReduce(t *testing.T) {
	for _, c := range []struct {
		text, nons string
		prods      []string
	}{
		{"s : ;", "s", []string{"s -> 0"}},
		{"s : s | s s | ;", "s", []string{"s -> s 0", "s -> s s 0", "s -> 0"}},
		// What is the same twice stays so; levels stay, whatever the row is.
		{"s : x | x | x ;", "s", []string{"s -> 'x' 0", "s -> 'x' 0", "s -> 'x' 0"}},
		{"%left x; %left y; s : x | x %none | x %prec y | %prec y ;", "s", []string{"s -> 'x' 1", "s -> 'x' 0", "s -> 'x' 2", "s -> 2"}},
		// What is productive, but not useful, goes; so do the useful ones' rows that derive nothing.
		{"s : x | y d ; y : x ; d : d ;", "s", []string{"s -> 'x' 0"}},
		{"s : a d | a | d a | a a ; a : d | a d a | x ; d : d a ;", "s a", []string{"s -> a 0", "s -> a a 0", "a -> 'x' 0"}},
		// The start symbol may stand anywhere, and in rows.
		{"%start c; a : c ; b : x ; c : b c | e ; d : b ; e : ;", "b c e", []string{"b -> 'x' 0", "c -> b c 0", "c -> e 0", "e -> 0"}},
		{"%start b; d : d ; a : b ; b : a | d | x ;", "a b", []string{"a -> b 0", "b -> a 0", "b -> 'x' 0"}},
		// The nonterminals keep the order that they had in g, though their first productions don't.
		{"s : a b ; a : d ; b : x ; a : y ; d : d ;", "s a b", []string{"s -> a b 0", "b -> 'x' 0", "a -> 'y' 0"}},
		{"s : a ; b : d ; a : x ; s : b ; b : s ; d : d ;", "s b a", []string{"s -> a 0", "a -> 'x' 0", "s -> b 0", "b -> s 0"}},
	} {
		wantReduced(t, read(t, c.text), c.nons, c.prods...)
	}
}

func TestNothingIsLeft(t *testing.T) {
	for _, text := range []string{"s : s ;", "s : x s ;", "s : a b ; a : x ; b : b ;", "s : a ; a : s ; b : ;", "%start b; a : ; b : b a ; "} {
		wantNoneReduced(t, text, read(t, text), api.ErrEmpty)
	}
}

func TestReduceOfClosedGrammars(t *testing.T) {
	for _, text := range []string{"s : ;", "s : x ; d : d ;", "s : s ;"} {
		wantNoneReduced(t, "what is closed of "+text, closedOf(read(t, text)), api.ErrArg)
	}
	c, _ := reach.Reduce(example(t, "S"))
	wantNoneReduced(t, "what is reduced", c, api.ErrArg)
}

func TestMayNotBeComesAheadOfEmpty(t *testing.T) {
	g := read(t, "s : s x ;")
	g.Prods[0].Level = 1
	wantNoneReduced(t, "what may not be and derives nothing", g, api.ErrArg)
}

// R1: rows that share memory may stand for far more than there is.
func TestRightsThatShareMemory(t *testing.T) {
	row := make([]int, 1<<17)
	for i := range row {
		row[i] = 1 + i%api.MaxSyms
	}
	row[len(row)-1] = api.MaxSyms
	g := chain(api.MaxSyms)
	for len(g.Prods) < api.MaxProds {
		g.Prods = append(g.Prods, api.Prod{Left: len(g.Prods) - 63, Right: row})
	}
	all := strings.Join(g.Nons, " ")
	wantMarks(t, g, all, all)
	g.Prods[api.MaxSyms-1].Right = row
	wantMarks(t, g, "", "")
	g.Prods[api.MaxSyms-2].Right = row[:0]
	g.Prods[api.MaxSyms-3].Right = row[api.MaxSyms-2 : api.MaxSyms-1]
	some := strings.Join(g.Nons[:api.MaxSyms-1], " ")
	wantMarks(t, g, some, some)
	if c, err := reach.Reduce(g); err != api.OK || len(c.Nons) != api.MaxSyms || len(c.Prods) != api.MaxSyms {
		t.Errorf("Reduce has %d nonterminals and %d productions, %d", len(c.Nons), len(c.Prods), err)
	}
}

// R3

// roomy is a grammar whose lists all have spare room, with marks in it.
func roomy(g api.Grammar) api.Grammar {
	g = gram.Copy(g)
	g.Terms = append(g.Terms, api.Term{Name: "spare"})[:len(g.Terms)]
	g.Nons = append(g.Nons, "spare")[:len(g.Nons)]
	g.Levels = append(g.Levels, 77)[:len(g.Levels)]
	for i, p := range g.Prods {
		g.Prods[i].Right = append(p.Right, 77)[:len(p.Right)]
	}
	g.Prods = append(g.Prods, api.Prod{Left: 77})[:len(g.Prods)]
	return g
}

func isUntouched(g, want api.Grammar) bool {
	for i, p := range g.Prods {
		if p.Right[:len(want.Prods[i].Right)+1][len(want.Prods[i].Right)] != 77 {
			return false
		}
	}
	return gram.Same(g, want) && g.Terms[:len(g.Terms)+1][len(g.Terms)].Name == "spare" && g.Nons[:len(g.Nons)+1][len(g.Nons)] == "spare" &&
		g.Levels[:len(g.Levels)+1][len(g.Levels)] == 77 && g.Prods[:len(g.Prods)+1][len(g.Prods)].Left == 77
}

// scribble writes over each list of a grammar, one by one, spare room too, and wants that the others stay as they were.
func scribble(t *testing.T, g api.Grammar) {
	t.Helper()
	over := func(list []int) {
		before := gram.Copy(g)
		was := slices.Clone(list[:cap(list)])
		for i := range cap(list) {
			list[:cap(list)][i] = -7
		}
		after := gram.Copy(g)
		copy(list[:cap(list)], was)
		if changed := changes(before, after); changed > 1 {
			t.Errorf("%d lists of %v are one", changed, g)
		}
	}
	over(g.Levels)
	for _, p := range g.Prods {
		over(p.Right)
	}
}

// changes are how many lists of numbers differ.
func changes(a, b api.Grammar) int {
	count := 0
	if !slices.Equal(a.Levels, b.Levels) {
		count++
	}
	for i := range a.Prods {
		if !slices.Equal(a.Prods[i].Right, b.Prods[i].Right) {
			count++
		}
	}
	return count
}

// overwrite writes over all lists of a grammar, spare room too.
func overwrite(g api.Grammar) {
	for _, p := range g.Prods {
		for i := range cap(p.Right) {
			p.Right[:cap(p.Right)][i] = -7
		}
	}
	clear(g.Terms[:cap(g.Terms)])
	clear(g.Nons[:cap(g.Nons)])
	clear(g.Levels[:cap(g.Levels)])
	clear(g.Prods[:cap(g.Prods)])
}

func TestMemory(t *testing.T) {
	const text = "%left '+'; %right '*'; s : s '+' s | s '*' t | d | t ; t : 'x' | ; d : d 'x' ; r : t s ;"
	want := read(t, text)
	g := roomy(want)
	first, _ := reach.Reduce(g)
	productive, _ := reach.Productive(g)
	useful, _ := reach.Useful(g)
	if !isUntouched(g, want) {
		t.Errorf("the grammar became %v, it was %v", g, want)
	}
	reach.Productive(closedOf(g))
	reach.Useful(closedOf(g))
	second, _ := reach.Reduce(g)
	scribble(t, first)
	overwrite(first)
	clear(productive[:cap(productive)])
	clear(useful[:cap(useful)])
	if !isUntouched(g, want) {
		t.Errorf("what was answered is the argument's: %v, want %v", g, want)
	}
	third, _ := reach.Reduce(g)
	overwrite(g)
	if !gram.Closed(second) || !gram.Same(second, third) {
		t.Errorf("what was answered is another answer's, or the argument's: %v, %v", second, third)
	}
	wantMarks(t, want, "s t r", "s t")
	wantReduced(t, want, "s t", "s -> s '+' s 1", "s -> s '*' t 2", "s -> t 0", "t -> 'x' 0", "t -> 0")
}
