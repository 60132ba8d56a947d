package cycle_test

import (
	"math"
	"slices"
	"strconv"
	"strings"
	"testing"

	"presage/api"
	"presage/cycle"
	"presage/gram"
	"presage/spec"
)

// read is the grammar of a text.
func read(t *testing.T, text string) api.Grammar {
	t.Helper()
	g, mishap := spec.Read(text)
	if mishap.Code != api.OK {
		t.Fatalf("Read(%q) answers %v", text, mishap)
	}
	return g
}

// closedOf adds the added one and the added production to a plain grammar.
func closedOf(g api.Grammar) api.Grammar {
	added := len(g.Terms)
	c := api.Grammar{Terms: g.Terms, Levels: g.Levels, Start: inClosed(g, g.Start)[0]}
	c.Nons = append([]string{""}, g.Nons...)
	c.Prods = []api.Prod{{Left: added, Right: []int{c.Start}}}
	for _, p := range g.Prods {
		c.Prods = append(c.Prods, api.Prod{Left: inClosed(g, p.Left)[0], Right: inClosed(g, p.Right...), Level: p.Level})
	}
	return c
}

// inClosed are the symbols of a plain grammar by their numbers in what is closed of it.
func inClosed(g api.Grammar, syms ...int) []int {
	moved := slices.Clone(syms)
	for i, sym := range moved {
		if sym >= len(g.Terms) {
			moved[i]++
		}
	}
	return moved
}

// readClosed is the closed grammar of a text.
func readClosed(t *testing.T, text string) api.Grammar {
	t.Helper()
	return closedOf(read(t, text))
}

// numbered are the symbols of a row of nonterminals' names.
func numbered(t *testing.T, g api.Grammar, names string) []int {
	t.Helper()
	var syms []int
	for _, name := range strings.Fields(names) {
		i := slices.Index(g.Nons, name)
		if i < 0 {
			t.Fatalf("%v has no %s", g, name)
		}
		syms = append(syms, len(g.Terms)+i)
	}
	return syms
}

// sameList takes none and an empty list alike.
func sameList(a, b []int) bool { return slices.Equal(a, b) }

// wantAll wants of a closed grammar the steps of each nonterminal, which ones are on a circle, and the circle that is found.
func wantAll(t *testing.T, g api.Grammar, steps [][]int, on, find []int) {
	t.Helper()
	if got, err := cycle.Steps(g); err != api.OK || !slices.EqualFunc(got, steps, sameList) {
		t.Errorf("Steps(%v) is %v, %d; want %v", g, got, err, steps)
	}
	if got, err := cycle.On(g); err != api.OK || !slices.Equal(got, on) {
		t.Errorf("On(%v) is %v, %d; want %v", g, got, err, on)
	}
	if got, err := cycle.Find(g); err != api.OK || !slices.Equal(got, find) {
		t.Errorf("Find(%v) is %v, %d; want %v", g, got, err, find)
	}
}

// wantTold wants that of what is closed of a text's grammar, all by names; the steps are those of the text's nonterminals, with / between them.
func wantTold(t *testing.T, text, steps, on, find string) {
	t.Helper()
	g := readClosed(t, text)
	want := [][]int{{g.Start}}
	for one := range strings.SplitSeq(steps, "/") {
		want = append(want, numbered(t, g, one))
	}
	wantAll(t, g, want, numbered(t, g, on), numbered(t, g, find))
}

// wantArg wants that all calls answer ErrArg alone.
func wantArg(t *testing.T, what string, g api.Grammar) {
	t.Helper()
	if steps, err := cycle.Steps(g); err != api.ErrArg || len(steps) != 0 {
		t.Errorf("Steps of %s is %v, %d; want ErrArg alone", what, steps, err)
	}
	if on, err := cycle.On(g); err != api.ErrArg || len(on) != 0 {
		t.Errorf("On of %s is %v, %d; want ErrArg alone", what, on, err)
	}
	if find, err := cycle.Find(g); err != api.ErrArg || len(find) != 0 {
		t.Errorf("Find of %s is %v, %d; want ErrArg alone", what, find, err)
	}
}

// P8.1, P8.2

func TestTheExamples(t *testing.T) {
	wantTold(t, "A : B ; B : A | 'x' ;", "B/A", "A B", "A B")
	wantTold(t, "A : B A C | 'x' ; B : ; C : B ;", "A//B", "A", "A")
	wantTold(t, "A : B B ; B : A | ;", "B/A", "A B", "A B")
	wantTold(t, "A : B C | 'x' ; B : A 'y' ; C : A | ;", "B//A", "", "")
}

// P8.1

func TestSteps(t *testing.T) {
	for _, c := range []struct{ text, steps string }{
		{"A : ;", ""},
		{"A : 'x' ;", ""},
		{"A : A ;", "A"},
		{"A : B ; B : ;", "B/"},
		{"A : B ; B : 'x' ;", "B/"},
		{"A : B | B | B B | B ; B : ;", "B/"},
		// A terminal never vanishes, wherever it stands.
		{"A : B 'x' ; B : ;", "/"},
		{"A : 'x' B ; B : ;", "/"},
		{"A : B 'x' B ; B : ;", "/"},
		{"A : B B 'x' ; B : ;", "/"},
		{"A : 'x' B ; B : 'y' ;", "/"},
		{"A : B 'x' ; B : 'y' ;", "/"},
		{"A : 'x' 'y' ;", ""},
		// Another one of the same must vanish too.
		{"A : B B ; B : 'x' ;", "/"},
		{"A : B B ; B : 'x' | ;", "B/"},
		{"A : B B B ; B : 'x' | ;", "B/"},
		{"A : A A | 'x' ;", ""},
		{"A : A A | ;", "A"},
		{"A : A A A ;", ""},
		{"A : B C B ; B : 'x' ; C : ;", "//"},
		// Of two one can't vanish: only that one is stepped to.
		{"A : B C ; B : 'x' ; C : ;", "B//"},
		{"A : C B ; B : 'x' ; C : ;", "B//"},
		{"A : C B C C ; B : 'x' ; C : ;", "B//"},
		{"A : B C ; B : ; C : ;", "B C//"},
		{"A : C B ; B : ; C : ;", "B C//"},
		{"A : B C ; B : 'x' ; C : 'y' ;", "//"},
		{"A : B C D ; B : ; C : 'x' | ; D : ;", "B C D///"},
		{"A : B C D ; B : ; C : 'x' ; D : ;", "C///"},
		{"A : B C D ; B : 'y' ; C : 'x' ; D : ;", "///"},
		{"A : B C D ; B : 'y' ; C : ; D : 'x' ;", "///"},
		{"A : D C B ; B : ; C : ; D : ;", "B C D///"},
		// What vanishes only by others vanishes as well.
		{"A : A B ; B : C C ; C : D ; D : 'x' | ;", "A/C/D/"},
		{"A : B A | ; B : A A ;", "A B/A"},
		// What derives no row of terminals does not vanish, but is stepped to.
		{"A : B C ; B : B ; C : ;", "B/B/"},
		{"A : B C ; B : B ; C : C ;", "/B/C"},
		// By several productions.
		{"A : C | B | 'x' A ; B : A C | 'y' ; C : | B 'y' ;", "B C/A C/"},
		{"A : B | 'x' ; B : A 'y' | 'y' B | B ;", "B/B"},
		// What is reached from nowhere counts too.
		{"A : 'x' ; B : C A ; C : ;", "/A/"},
		{"%start C; A : 'x' ; B : C A ; C : ;", "/A/"},
		// Levels are nothing to steps.
		{"%left '+'; %right '*'; e : e '+' e | e '*' e | e %prec '*' | n ;", "e"},
	} {
		g := readClosed(t, c.text)
		want := [][]int{{g.Start}}
		for one := range strings.SplitSeq(c.steps, "/") {
			want = append(want, numbered(t, g, one))
		}
		if got, err := cycle.Steps(g); err != api.OK || !slices.EqualFunc(got, want, sameList) {
			t.Errorf("Steps(%s) is %v, %d; want %v", c.text, got, err, want)
		}
	}
}

// P8.2

func TestCircles(t *testing.T) {
	for _, c := range []struct{ text, steps, on, find string }{
		{"A : ;", "", "", ""},
		{"A : 'x' A | 'x' ;", "", "", ""},
		{"A : A ;", "A", "A", "A"},
		{"A : A | 'x' ;", "A", "A", "A"},
		{"A : A A | ;", "A", "A", "A"},
		{"A : A A | 'x' ;", "", "", ""},
		{"A : B ; B : C ; C : ;", "B/C/", "", ""},
		// Who leads to a circle, or is led to by one, is not on it.
		{"A : B ; B : C ; C : B | D ; D : 'x' ;", "B/C/B D/", "B C", "B C"},
		{"A : B ; B : B | C ; C : 'x' ;", "B/B C/", "B", "B"},
		{"A : B ; B : C ; C : D ; D : C ;", "B/C/D/C", "C D", "C D"},
		// One way and its like by two others make no circle.
		{"A : B | C ; B : D ; C : D ; D : 'x' ;", "B C/D/D/", "", ""},
		// The circle that is found begins with the least one, be another one shorter.
		{"A : B ; B : C ; C : A | C ;", "B/C/A C", "A B C", "A B C"},
		{"A : 'x' ; B : C ; C : D ; D : C | D ;", "/C/D/C D", "C D", "C D"},
		{"A : 'x' ; B : D ; C : C ; D : B ;", "/D/C/B", "B C D", "B D"},
		{"A : B ; B : B ; C : D ; D : C ;", "B/B/D/C", "B C D", "B"},
		// Of its circles it is the shortest.
		{"A : B ; B : C | A ; C : A ;", "B/A C/A", "A B C", "A B"},
		{"A : A | B ; B : A ;", "A B/A", "A B", "A"},
		{"A : B | C ; B : D ; C : A ; D : A ;", "B C/D/A/A", "A B C D", "A C"},
		{"A : B | D ; B : C ; C : A ; D : E ; E : F ; F : A ;", "B D/C/A/E/F/A", "A B C D E F", "A B C"},
		{"A : B | F ; B : C ; C : D ; D : A ; E : A ; F : E ;", "B F/C/D/A/A/E", "A B C D E F", "A F E"},
		// Of those of one length it is the least one at the first place at which they differ.
		{"A : C | B ; B : A ; C : A ;", "B C/A/A", "A B C", "A B"},
		{"A : B | C ; B : E ; C : D ; D : A ; E : A ;", "B C/E/D/A/A", "A B C D E", "A B E"},
		{"A : B ; B : D | C ; C : A ; D : A ;", "B/C D/A/A", "A B C D", "A B C"},
		{"A : D | B ; B : C ; C : 'x' ; D : E ; E : A ;", "B D/C//E/A", "A D E", "A D E"},
		{"A : B | C ; B : D ; C : D ; D : A ;", "B C/D/D/A", "A B C D", "A B D"},
		{"A : C | D ; B : A ; C : E ; D : B ; E : A ;", "C D/A/E/B/A", "A B C D E", "A C E"},
		{"A : B | C ; B : F ; C : D ; D : A ; E : A ; F : E | A ;", "B C/F/D/A/A/A E", "A B C D E F", "A B F"},
		// Ways of one length that part early, and late.
		{"A : B | C ; B : G ; C : F ; D : A ; E : A ; F : D ; G : E ;", "B C/G/F/A/A/D/E", "A B C D E F G", "A B G E"},
		{"A : B | C ; B : G | F ; C : D ; D : E ; E : A ; F : E ; G : D ;", "B C/F G/D/E/A/E/D", "A B C D E F G", "A B F E"},
		// Circles by what vanishes.
		{"A : B A B ; B : | 'x' ;", "A/", "A", "A"},
		{"A : B C | 'x' ; B : A ; C : | 'y' ;", "B/A/", "A B", "A B"},
		{"A : B C | 'x' ; B : A ; C : 'y' ;", "/A/", "", ""},
		{"A : B C ; B : A | ; C : A | ;", "B C/A/A", "A B C", "A B"},
		// Where the start symbol stands is nothing to circles.
		{"%start C; A : B ; B : A ; C : 'x' ;", "B/A/", "A B", "A B"},
		{"%start B; A : B ; B : A ;", "B/A", "A B", "A B"},
	} {
		wantTold(t, c.text, c.steps, c.on, c.find)
	}
}

func TestATerminalHasANonterminalsName(t *testing.T) {
	wantTold(t, "A : 'A' | 'B' ; B : A ;", "/A", "", "")
	wantTold(t, "A : 'A' | B ; B : A ;", "B/A", "A B", "A B")
}

// The nonterminals of a closed grammar may stand in any order; the least one is the least symbol.
func TestAClosedGrammarOfItsOwnOrder(t *testing.T) {
	g := api.Grammar{
		Terms: []api.Term{{}, {Name: "x"}},
		Nons:  []string{"", "d", "c", "b", "a"},
		Start: 6,
		Prods: []api.Prod{{Left: 2, Right: []int{6}}, {Left: 6, Right: []int{5, 4}}, {Left: 4, Right: []int{6}}, {Left: 5, Right: []int{3}}, {Left: 4}, {Left: 5}, {Left: 3, Right: []int{6}}},
	}
	wantAll(t, g, [][]int{{6}, {6}, {6}, {3}, {4, 5}}, []int{3, 4, 5, 6}, []int{3, 6, 5})
	g.Prods[3].Right = []int{1}
	wantAll(t, g, [][]int{{6}, {6}, {6}, nil, {4, 5}}, []int{4, 6}, []int{4, 6})
	g.Prods[2].Right = []int{5, 6, 6}
	wantAll(t, g, [][]int{{6}, {6}, {5, 6}, nil, {4, 5}}, []int{4, 6}, []int{4, 6})
	g.Prods[5].Right = []int{1}
	wantAll(t, g, [][]int{{6}, {6}, nil, nil, {5}}, nil, nil)
}

// ring is the closed grammar of so many nonterminals, each of which leads to the next one alone, and the last one to that row; the first one is 3.
func ring(length int, last ...int) api.Grammar {
	g := api.Grammar{Terms: []api.Term{{}, {Name: "x"}}, Nons: []string{""}, Start: 3, Prods: []api.Prod{{Left: 2, Right: []int{3}}}}
	for i := range length {
		g.Nons = append(g.Nons, "n"+strconv.Itoa(i))
		g.Prods = append(g.Prods, api.Prod{Left: 3 + i, Right: []int{4 + i}})
	}
	g.Prods[length].Right = last
	return g
}

// from are so many numbers, each one more than the one ahead of it.
func from(first, count int) []int {
	var list []int
	for i := range count {
		list = append(list, first+i)
	}
	return list
}

// onward are the steps of a ring whose last one steps to these.
func onward(length int, last ...int) [][]int {
	steps := [][]int{{3}}
	for i := range length - 1 {
		steps = append(steps, []int{4 + i})
	}
	return append(steps, last)
}

func TestTheLongestRings(t *testing.T) {
	const length = api.MaxSyms - 1
	wantAll(t, ring(length), onward(length), nil, nil)
	wantAll(t, ring(length, 1), onward(length), nil, nil)
	wantAll(t, ring(length, 3), onward(length, 3), from(3, length), from(3, length))
	wantAll(t, ring(length, 5), onward(length, 5), from(5, length-2), from(5, length-2))
	wantAll(t, ring(length, 2+length), onward(length, 2+length), []int{2 + length}, []int{2 + length})
	wantAll(t, ring(length, 3, 1), onward(length), nil, nil)
	wantAll(t, ring(length, 3, 3), onward(length), nil, nil)
}

// The circle may be told in an order that is not that of the symbols.
func TestTheLongestRingBackward(t *testing.T) {
	const length = api.MaxSyms - 1
	g := ring(length)
	steps := [][]int{{3}, {2 + length}}
	g.Prods[1].Right = []int{2 + length}
	for i := 1; i < length; i++ {
		g.Prods[1+i].Right = []int{2 + i}
		steps = append(steps, []int{2 + i})
	}
	find := append([]int{3}, from(4, length-1)...)
	slices.Reverse(find[1:])
	wantAll(t, g, steps, from(3, length), find)
}

func TestTheMostNonterminals(t *testing.T) {
	const length = api.MaxSyms
	g := api.Grammar{Terms: []api.Term{{}}, Nons: []string{""}, Start: 2, Prods: []api.Prod{{Left: 1, Right: []int{2}}}}
	steps := [][]int{{2}}
	for i := range length {
		g.Nons = append(g.Nons, "n"+strconv.Itoa(i))
		g.Prods = append(g.Prods, api.Prod{Left: 2 + i, Right: []int{2 + (i+1)%length}})
		steps = append(steps, []int{2 + (i+1)%length})
	}
	wantAll(t, g, steps, from(2, length), from(2, length))
	// All of them vanish, and the first steps to all: so it steps to itself.
	g.Prods[1].Right = from(2, length)
	g.Prods = append(g.Prods, api.Prod{Left: 2})
	steps[1] = from(2, length)
	wantAll(t, g, steps, from(2, length), []int{2})
	// The first half steps to all, the second one to the first half.
	const half = length / 2
	g.Prods = g.Prods[:1]
	for i := range length {
		steps[1+i] = from(2, half)
		if i < half {
			steps[1+i] = from(2, length)
			g.Prods = append(g.Prods, api.Prod{Left: 2 + i})
		}
		g.Prods = append(g.Prods, api.Prod{Left: 2 + i, Right: steps[1+i]})
	}
	wantAll(t, g, steps, from(2, length), []int{2})
	// Where the first one does not step to itself, the circle goes by the second one.
	g.Prods[2].Right = from(3, length-1)
	steps[1] = from(3, length-1)
	wantAll(t, g, steps, from(2, length), []int{2, 3})
}

func TestTheMostProductions(t *testing.T) {
	const length = api.MaxSyms - 1
	g := ring(length, 1)
	for len(g.Prods) < api.MaxProds {
		g.Prods = append(g.Prods, api.Prod{Left: 3, Right: []int{1}})
	}
	g.Prods = append(g.Prods, api.Prod{Left: 2 + length, Right: []int{40}})
	wantAll(t, g, onward(length, 40), from(40, length-37), from(40, length-37))
	g.Prods[api.MaxProds].Right = []int{40, 1}
	wantAll(t, g, onward(length), nil, nil)
}

// There may be far more shortest ways than anybody can go one by one.
func TestManyShortestWays(t *testing.T) {
	const layers = 31
	g := ring(1 + 2*layers)
	steps := [][]int{{3}, {4, 5}}
	find := []int{3}
	g.Prods[1].Right = []int{5, 4}
	for layer := range layers {
		a, b := 4+2*layer, 5+2*layer
		next := []int{b + 1, b + 2}
		if layer == layers-1 {
			next = []int{3}
		}
		g.Prods[a-2].Right, g.Prods[b-2].Right = next, next
		steps = append(steps, next, next)
		find = append(find, a)
	}
	// That the first one vanishes lets all others do.
	g.Prods = append(g.Prods, api.Prod{Left: 3})
	wantAll(t, g, steps, from(3, 1+2*layers), find)
	// The last layer leads back to the one ahead of it alone.
	const last = 2 + 2*layers
	g.Prods[last-2].Right, g.Prods[last-1].Right = []int{last - 1}, []int{last - 1}
	g.Prods[len(g.Prods)-1].Left = last - 1
	steps[last-2], steps[last-1] = []int{last - 1}, []int{last - 1}
	wantAll(t, g, steps, []int{last - 1, last, last + 1}, []int{last - 1, last})
}

// All calls

func TestNoGrammar(t *testing.T) {
	wantArg(t, "nothing", api.Grammar{})
	wantArg(t, "an end marker alone", api.Grammar{Terms: []api.Term{{}}})
	for what, spoil := range map[string]func(g *api.Grammar){
		"no end marker":               func(g *api.Grammar) { g.Terms[0].Name = "w" },
		"two texts alike":             func(g *api.Grammar) { g.Terms[2].Name = g.Terms[1].Name },
		"a text with a quote":         func(g *api.Grammar) { g.Terms[1].Name = "'" },
		"a terminal's level too high": func(g *api.Grammar) { g.Terms[1].Level = 1 },
		"a name that is none":         func(g *api.Grammar) { g.Nons[1] = "9" },
		"two names alike":             func(g *api.Grammar) { g.Nons[2] = g.Nons[1] },
		"a level of nobody":           func(g *api.Grammar) { g.Levels = []int{api.Left} },
		"a side that is none":         func(g *api.Grammar) { g.Terms[1].Level, g.Levels = 1, []int{4} },
		"no productions":              func(g *api.Grammar) { g.Prods = nil },
		"the added production alone":  func(g *api.Grammar) { g.Prods = g.Prods[:1] },
		"no added production":         func(g *api.Grammar) { g.Prods = g.Prods[1:] },
		"no added one":                func(g *api.Grammar) { g.Nons[0] = "n" },
		"an added one with a level":   func(g *api.Grammar) { g.Prods[0].Level = 1 },
		"an added one of another row": func(g *api.Grammar) { g.Prods[0].Right = []int{5} },
		"an added one of two symbols": func(g *api.Grammar) { g.Prods[0].Right = []int{4, 4} },
		"an added one of the empty":   func(g *api.Grammar) { g.Prods[0].Right = nil },
		"an added one that starts":    func(g *api.Grammar) { g.Start = 3 },
		"an added one in a right":     func(g *api.Grammar) { g.Prods[1].Right[0] = 3 },
		"an added one twice a left":   func(g *api.Grammar) { g.Prods[2].Left = 3 },
		"an added one elsewhere":      func(g *api.Grammar) { g.Nons[0], g.Nons[1] = g.Nons[1], g.Nons[0] },
		"a name too many":             func(g *api.Grammar) { g.Nons = append(g.Nons, "n") },
		"a terminal for a left":       func(g *api.Grammar) { g.Prods[1].Left = 1 },
		"a left that is nothing":      func(g *api.Grammar) { g.Prods[1].Left = math.MaxInt },
		"the end marker in a right":   func(g *api.Grammar) { g.Prods[1].Right[0] = 0 },
		"a symbol below all":          func(g *api.Grammar) { g.Prods[1].Right[0] = -1 },
		"a symbol behind all":         func(g *api.Grammar) { g.Prods[1].Right[0] = len(g.Terms) + len(g.Nons) },
		"a symbol far above":          func(g *api.Grammar) { g.Prods[1].Right[0] = math.MaxInt },
		"a production's level":        func(g *api.Grammar) { g.Prods[1].Level = 1 },
		"a start that is a terminal":  func(g *api.Grammar) { g.Start = 1 },
		"a start that is nothing":     func(g *api.Grammar) { g.Start = math.MinInt },
		"a start behind all":          func(g *api.Grammar) { g.Start = len(g.Terms) + len(g.Nons) },
	} {
		g := readClosed(t, "A : B A | 'x' ; B : A 'y' | ;")
		spoil(&g)
		wantArg(t, "a closed grammar with "+what, g)
	}
}

// What is plain is never closed.
func TestPlainGrammars(t *testing.T) {
	for _, text := range []string{"A : ;", "A : A ;", "A : B ; B : A | 'x' ;", "%left '+'; e : e '+' e | n ;"} {
		wantArg(t, "the plain grammar "+text, read(t, text))
	}
}

func TestMoreThanMayBe(t *testing.T) {
	wantArg(t, "a symbol too many", ring(api.MaxSyms, 3))
	g := ring(api.MaxSyms-1, 3)
	for len(g.Prods) <= api.MaxProds+1 {
		g.Prods = append(g.Prods, api.Prod{Left: 3})
	}
	wantArg(t, "a production too many", g)
}

// R1: rows that share memory may stand for far more than there is.
func TestRowsThatShareMemory(t *testing.T) {
	const length, long = api.MaxSyms - 1, api.MaxProds - api.MaxSyms + 1
	row := make([]int, 1<<16)
	for i := range row {
		row[i] = 3 + i%(length-1)
	}
	g := ring(length)
	for i := range length - 1 {
		g.Prods[1+i].Right = nil
	}
	g.Prods[length].Right = []int{1}
	for i := range long {
		g.Prods = append(g.Prods, api.Prod{Left: 3 + i, Right: row})
	}
	wantLong := func(on, find []int, to ...int) {
		t.Helper()
		steps := append([][]int{{3}}, slices.Repeat([][]int{to}, long)...)
		wantAll(t, g, append(steps, slices.Repeat([][]int{nil}, length-long)...), on, find)
	}
	wantLong(from(3, long), []int{3}, from(3, length-1)...)
	// The last one does not vanish.
	row[len(row)/2] = 2 + length
	wantLong(nil, nil, 2+length)
	row[len(row)-1] = 2 + length
	wantLong(nil, nil)
	row[len(row)/2], row[len(row)-1] = 3, 1
	wantLong(nil, nil)
	row[len(row)-1] = 0
	wantArg(t, "the end marker far behind", g)
}

// R3

// roomy is a grammar whose lists all have spare room, with marks in it.
func roomy(g api.Grammar) api.Grammar {
	g = gram.Copy(g)
	g.Terms = append(g.Terms, api.Term{Name: "spare"})[:len(g.Terms)]
	g.Nons = append(g.Nons, "spare")[:len(g.Nons)]
	g.Levels = append(g.Levels, 77)[:len(g.Levels)]
	for i, p := range g.Prods {
		g.Prods[i].Right = append(p.Right, 77)[:len(p.Right)]
	}
	g.Prods = append(g.Prods, api.Prod{Left: 77})[:len(g.Prods)]
	return g
}

func isUntouched(g, want api.Grammar) bool {
	for i, p := range g.Prods {
		if p.Right[:len(want.Prods[i].Right)+1][len(want.Prods[i].Right)] != 77 {
			return false
		}
	}
	return gram.Same(g, want) && g.Terms[:len(g.Terms)+1][len(g.Terms)].Name == "spare" && g.Nons[:len(g.Nons)+1][len(g.Nons)] == "spare" &&
		g.Levels[:len(g.Levels)+1][len(g.Levels)] == 77 && g.Prods[:len(g.Prods)+1][len(g.Prods)].Left == 77
}

// overwrite writes over a list, spare room too.
func overwrite(list []int) {
	for i := range cap(list) {
		list[:cap(list)][i] = -7
	}
}

func TestWhatIsHandedInIsNotChanged(t *testing.T) {
	want := readClosed(t, "%left '+'; %right '*'; s : s '+' s | a s '*' | a ; a : b b | 'x' ; b : | a 'y' | s ;")
	g := roomy(want)
	cycle.Steps(g)
	cycle.On(g)
	cycle.Find(g)
	if !isUntouched(g, want) {
		t.Errorf("the grammar became %v, it was %v", g, want)
	}
}

func TestAnswersAreNewMemory(t *testing.T) {
	g := roomy(readClosed(t, "%left '+'; A : B C | '+' ; B : A | ; C : B | D | ; D : A ;"))
	want := [][]int{{3}, {4, 5}, {3}, {4, 6}, {3}}
	for at := range want {
		steps, _ := cycle.Steps(g)
		overwrite(steps[at])
		for i := range want {
			if i != at && !slices.Equal(steps[i], want[i]) {
				t.Errorf("the steps %d and %d of %v are one", at, i, steps)
			}
		}
	}
	on, _ := cycle.On(g)
	find, _ := cycle.Find(g)
	overwrite(on)
	if !slices.Equal(find, []int{3, 4}) {
		t.Errorf("what On answers is Find's: %v", find)
	}
	overwrite(find)
	wantAll(t, g, want, []int{3, 4, 5, 6}, []int{3, 4})
}
