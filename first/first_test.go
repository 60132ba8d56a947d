package first_test

import (
	"math"
	"slices"
	"strconv"
	"strings"
	"testing"

	"presage/api"
	"presage/first"
	"presage/gram"
	"presage/spec"
)

// read is the grammar of a text.
func read(t *testing.T, text string) api.Grammar {
	t.Helper()
	g, mishap := spec.Read(text)
	if mishap.Code != api.OK {
		t.Fatalf("Read(%q) answers %v", text, mishap)
	}
	return g
}

// closedOf adds the added one and the added production to a plain grammar.
func closedOf(g api.Grammar) api.Grammar {
	added := len(g.Terms)
	c := api.Grammar{Terms: g.Terms, Levels: g.Levels, Start: inClosed(g, g.Start)[0]}
	c.Nons = append([]string{""}, g.Nons...)
	c.Prods = []api.Prod{{Left: added, Right: []int{c.Start}}}
	for _, p := range g.Prods {
		c.Prods = append(c.Prods, api.Prod{Left: inClosed(g, p.Left)[0], Right: inClosed(g, p.Right...), Level: p.Level})
	}
	return c
}

// inClosed are the symbols of a plain grammar by their numbers in what is closed of it.
func inClosed(g api.Grammar, syms ...int) []int {
	moved := slices.Clone(syms)
	for i, sym := range moved {
		if sym >= len(g.Terms) {
			moved[i]++
		}
	}
	return moved
}

// numbered are the symbols of a row of names; of the end marker the name is $end.
func numbered(t *testing.T, g api.Grammar, names string) []int {
	t.Helper()
	var syms []int
	for _, name := range strings.Fields(names) {
		term := slices.IndexFunc(g.Terms, func(term api.Term) bool { return term.Name == name })
		non := slices.Index(g.Nons, name)
		switch {
		case name == "$end":
			syms = append(syms, 0)
		case non >= 0:
			syms = append(syms, len(g.Terms)+non)
		case term > 0:
			syms = append(syms, term)
		default:
			t.Fatalf("%v has no %s", g, name)
		}
	}
	return syms
}

// sameList takes none and an empty list alike.
func sameList(a, b []int) bool { return slices.Equal(a, b) }

// wantFound wants of each nonterminal, in their order, the terminals that rows begin with, and whether it vanishes.
func wantFound(t *testing.T, g api.Grammar, sets [][]int, nullable []bool) {
	t.Helper()
	if got, err := first.Nullable(g); err != api.OK || !slices.Equal(got, nullable) {
		t.Errorf("Nullable(%v) is %v, %d; want %v", g, got, err, nullable)
	}
	if got, err := first.Sets(g); err != api.OK || !slices.EqualFunc(got, sets, sameList) {
		t.Errorf("Sets(%v) is %v, %d; want %v", g, got, err, sets)
	}
}

// wantBoth wants that of a plain grammar, and likewise of what is closed of it, where the added one has what the start symbol has.
func wantBoth(t *testing.T, g api.Grammar, sets [][]int, nullable []bool) {
	t.Helper()
	wantFound(t, g, sets, nullable)
	start := g.Start - len(g.Terms)
	wantFound(t, closedOf(g), append([][]int{sets[start]}, sets...), append([]bool{nullable[start]}, nullable...))
}

// wantTold wants of the grammar of a text, of each nonterminal, a text: the names of the terminals, and - behind them, if it vanishes.
func wantTold(t *testing.T, text string, told ...string) {
	t.Helper()
	g := read(t, text)
	var sets [][]int
	var nullable []bool
	for _, one := range told {
		names, vanishes := strings.CutSuffix(one, "-")
		set := numbered(t, g, names)
		slices.Sort(set)
		sets, nullable = append(sets, set), append(nullable, vanishes)
	}
	wantBoth(t, g, sets, nullable)
}

// wantRow wants what Row tells of a row, in a plain grammar and in what is closed of it.
func wantRow(t *testing.T, g api.Grammar, syms, want []int, vanishes bool) {
	t.Helper()
	if got, is, err := first.Row(g, syms...); err != api.OK || is != vanishes || !slices.Equal(got, want) {
		t.Errorf("Row(%v, %v) is %v, %v, %d; want %v, %v", g, syms, got, is, err, want, vanishes)
	}
	if g.Nons[0] != "" {
		wantRow(t, closedOf(g), inClosed(g, syms...), want, vanishes)
	}
}

func wantRowArg(t *testing.T, what string, g api.Grammar, syms ...int) {
	t.Helper()
	if set, vanishes, err := first.Row(g, syms...); err != api.ErrArg || len(set) != 0 || vanishes {
		t.Errorf("Row of %s is %v, %v, %d; want ErrArg alone", what, set, vanishes, err)
	}
}

// wantArg wants that all calls answer ErrArg alone, whatever row is asked.
func wantArg(t *testing.T, what string, g api.Grammar) {
	t.Helper()
	if nullable, err := first.Nullable(g); err != api.ErrArg || len(nullable) != 0 {
		t.Errorf("Nullable of %s is %v, %d; want ErrArg alone", what, nullable, err)
	}
	if sets, err := first.Sets(g); err != api.ErrArg || len(sets) != 0 {
		t.Errorf("Sets of %s is %v, %d; want ErrArg alone", what, sets, err)
	}
	wantRowArg(t, what, g)
	wantRowArg(t, what, g, 0)
	wantRowArg(t, what, g, 1, 1)
	wantRowArg(t, what, g, len(g.Terms)+len(g.Nons))
}

// example is the chapter's.
func example(t *testing.T) api.Grammar {
	t.Helper()
	return read(t, "%token x y z; s : a s 'x' | 'y' ; a : | 'z' b ; b : b ;")
}

// P7.1, P7.2

func TestTheExample(t *testing.T) {
	wantBoth(t, example(t), [][]int{{2, 3}, {3}, {}}, []bool{false, true, false})
}

func TestNullableAndSets(t *testing.T) {
	for _, c := range []struct {
		text string
		told []string
	}{
		{"s : ;", []string{"-"}},
		{"s : 'x' ;", []string{"x"}},
		{"s : | 'x' ;", []string{"x -"}},
		{"s : s ;", []string{""}},
		{"s : s | ;", []string{"-"}},
		{"s : s s | ;", []string{"-"}},
		{"s : s 'x' ;", []string{""}},
		{"s : s 'x' | ;", []string{"x -"}},
		{"s : s 'x' | 'y' ;", []string{"y"}},
		{"s : 'x' s ;", []string{"x"}},
		{"s : 'x' 'y' ;", []string{"x"}},
		{"s : s s 'x' | 'y' | ;", []string{"x y -"}},
		// What stands behind a terminal, or behind one that does not vanish, is not begun with.
		{"s : a 'x' ; a : 'y' ;", []string{"y", "y"}},
		{"s : a 'x' ; a : 'y' | ;", []string{"x y", "y -"}},
		{"s : a b 'x' ; a : 'y' | ; b : 'z' ;", []string{"y z", "y -", "z"}},
		{"s : a b 'x' ; a : 'y' | ; b : 'z' | ;", []string{"x y z", "y -", "z -"}},
		{"s : a b ; a : 'y' | ; b : 'z' | ;", []string{"y z -", "y -", "z -"}},
		{"s : a a b ; a : 'y' | ; b : 'z' ;", []string{"y z", "y -", "z"}},
		{"s : a b a ; a : 'y' | ; b : 'z' ;", []string{"y z", "y -", "z"}},
		{"s : a b a 'w' ; a : 'y' | ; b : a ;", []string{"w y", "y -", "y -"}},
		// What derives no row of terminals is begun with all the same, but nothing behind it is.
		{"s : 'x' d ; d : d ;", []string{"x", ""}},
		{"s : d 'x' ; d : d ;", []string{"", ""}},
		{"s : d | 'x' ; d : 'y' d ;", []string{"x y", "y"}},
		{"s : a d 'x' ; a : | 'y' ; d : d ;", []string{"y", "y -", ""}},
		// What is reached from nowhere counts too.
		{"s : 'x' ; a : s 'y' | ; b : a a ;", []string{"x", "x -", "x -"}},
		{"%start b; s : 'x' ; a : s 'y' | ; b : a a 'z' ;", []string{"x", "x -", "x z"}},
		// Circles, over which everybody has what one has.
		{"s : a ; a : b ; b : s ;", []string{"", "", ""}},
		{"s : a ; a : b ; b : s | 'x' ;", []string{"x", "x", "x"}},
		{"s : a | 'w' ; a : b | 'x' ; b : s | ;", []string{"w x -", "w x -", "w x -"}},
		{"s : a 'x' ; a : b 'y' ; b : s 'z' | ;", []string{"y", "y", "y -"}},
		{"s : a s b | 'x' ; a : ; b : | 'y' ;", []string{"x", "-", "y -"}},
		// That one vanishes is found late, and lets others begin with more.
		{"s : a 'x' ; a : b c ; b : c ; c : ;", []string{"x", "-", "-", "-"}},
		{"s : a b 'x' ; a : b b ; b : 'y' | c c ; c : d ; d : a | ;", []string{"x y", "y -", "y -", "y -", "y -"}},
		{"c : ; b : c ; a : b c ; s : a 'x' ;", []string{"-", "-", "-", "x"}},
		// Levels are nothing to rows.
		{"%left '+'; %right '*'; e : e '+' e | e '*' e | n ;", []string{"n"}},
		{"%left '+'; e : e '+' e | %prec '+' ;", []string{"+ -"}},
	} {
		wantTold(t, c.text, c.told...)
	}
}

func TestATerminalHasANonterminalsName(t *testing.T) {
	g := read(t, "s : 'a' ; a : ;")
	wantBoth(t, g, [][]int{{1}, {}}, []bool{false, true})
	wantRow(t, g, []int{3, 1}, []int{1}, false)
	wantRow(t, g, []int{3}, nil, true)
}

func TestAClosedGrammarOfItsOwnOrder(t *testing.T) {
	g := api.Grammar{
		Terms: []api.Term{{}, {Name: "x"}, {Name: "y"}},
		Nons:  []string{"", "d", "c", "b", "a"},
		Start: 7,
		Prods: []api.Prod{{Left: 3, Right: []int{7}}, {Left: 7, Right: []int{6, 1}}, {Left: 6, Right: []int{5, 5}}, {Left: 4, Right: []int{2, 7}}, {Left: 5}},
	}
	wantFound(t, g, [][]int{{1}, {2}, {}, {}, {1}}, []bool{false, false, true, true, false})
	g.Prods[4].Right = []int{4}
	wantFound(t, g, [][]int{{2}, {2}, {2}, {2}, {2}}, make([]bool, 5))
	g.Prods = append(g.Prods, api.Prod{Left: 6})
	wantFound(t, g, [][]int{{1, 2}, {2}, {2}, {2}, {1, 2}}, []bool{false, false, false, true, false})
}

// chain is a grammar of one terminal and so many nonterminals, each of which leads to the next one alone, and the last one to that row.
func chain(length int, last ...int) api.Grammar {
	g := api.Grammar{Terms: []api.Term{{}, {Name: "x"}}, Start: 2}
	for i := range length {
		g.Nons = append(g.Nons, "n"+strconv.Itoa(i))
		g.Prods = append(g.Prods, api.Prod{Left: 2 + i, Right: []int{3 + i}})
	}
	g.Prods[length-1].Right = last
	return g
}

// backward is a chain that leads the other way: each nonterminal to the one ahead of it, and the first one to that row.
func backward(length int, last ...int) api.Grammar {
	g := chain(length)
	for i := range g.Prods {
		g.Prods[i].Right = []int{1 + i}
	}
	g.Prods[0].Right = last
	return g
}

// times is a list of so many of one value.
func times[T any](n int, value T) []T {
	list := make([]T, n)
	for i := range list {
		list[i] = value
	}
	return list
}

func TestTheLongestChains(t *testing.T) {
	const length = api.MaxSyms - 1
	for _, make := range []func(length int, last ...int) api.Grammar{chain, backward} {
		wantBoth(t, make(length), times(length, []int{}), times(length, true))
		wantBoth(t, make(length, 1), times(length, []int{1}), times(length, false))
		wantBoth(t, make(length, 2), times(length, []int{}), times(length, false))
		wantBoth(t, make(length, 1+length, 1), times(length, []int{}), times(length, false))
	}
}

// Each one is nullable just if the next one is, and has a terminal of its own behind it.
func TestWhatVanishesAlongAChain(t *testing.T) {
	const length = api.MaxSyms / 2
	g := api.Grammar{Terms: []api.Term{{}}, Start: 1 + length}
	var sets [][]int
	for i := range length {
		g.Terms = append(g.Terms, api.Term{Name: "t" + strconv.Itoa(i)})
		g.Nons = append(g.Nons, "n"+strconv.Itoa(i))
		g.Prods = append(g.Prods, api.Prod{Left: 1 + length + i, Right: []int{2 + length + i}}, api.Prod{Left: 1 + length + i, Right: []int{2 + length + i, 1 + i}})
		set := []int{}
		for term := 1 + i; term <= length; term++ {
			set = append(set, term)
		}
		sets = append(sets, set)
	}
	last := length - 1
	g.Prods[2*last].Right, g.Prods[2*last+1].Right = nil, []int{1 + last}
	wantBoth(t, g, sets, times(length, true))
	g.Prods[2*last].Right = []int{1 + last}
	wantBoth(t, g, times(length, []int{1 + last}), times(length, false))
}

func TestTheMostProductions(t *testing.T) {
	const length = api.MaxSyms - 1
	g := chain(length)
	for len(g.Prods) < api.MaxProds-1 {
		g.Prods = append(g.Prods, api.Prod{Left: 2, Right: []int{2}})
	}
	g.Prods[10].Right = []int{12}
	g.Prods = append(g.Prods, api.Prod{Left: 2, Right: []int{50, 50, 1}})
	nullable := times(length, true)
	sets := times(length, []int{})
	sets[0] = []int{1}
	clear(nullable[:11])
	wantBoth(t, g, sets, nullable)
	g.Prods[api.MaxProds-1].Right = []int{50, 50}
	nullable[0], sets[0] = true, nil
	wantBoth(t, g, sets, nullable)
}

func TestTheMostTerminals(t *testing.T) {
	const last = api.MaxSyms - 1
	g := api.Grammar{Terms: []api.Term{{}}, Nons: []string{"s"}, Start: api.MaxSyms}
	var all []int
	for term := 1; term <= last; term++ {
		all = append(all, term)
		g.Terms = append(g.Terms, api.Term{Name: "t" + strconv.Itoa(term)})
		g.Prods = append(g.Prods, api.Prod{Left: api.MaxSyms, Right: []int{api.MaxSyms, last + 1 - term}})
	}
	wantBoth(t, g, [][]int{{}}, []bool{false})
	g.Prods = append(g.Prods, api.Prod{Left: api.MaxSyms})
	wantBoth(t, g, [][]int{all}, []bool{true})
	wantRow(t, g, []int{api.MaxSyms, 0}, append([]int{0}, all...), false)
	g.Prods[last].Right = []int{last}
	wantBoth(t, g, [][]int{{last}}, []bool{false})
}

// P7.1, P7.2, P7.3

func TestNoGrammar(t *testing.T) {
	wantArg(t, "nothing", api.Grammar{})
	wantArg(t, "an end marker alone", api.Grammar{Terms: []api.Term{{}}})
	for what, spoil := range map[string]func(g *api.Grammar){
		"no end marker":               func(g *api.Grammar) { g.Terms[0].Name = "w" },
		"two texts alike":             func(g *api.Grammar) { g.Terms[2].Name = g.Terms[1].Name },
		"a text with a quote":         func(g *api.Grammar) { g.Terms[1].Name = "'" },
		"a terminal's level too high": func(g *api.Grammar) { g.Terms[1].Level = 1 },
		"a name that is none":         func(g *api.Grammar) { g.Nons[1] = "9" },
		"two names alike":             func(g *api.Grammar) { g.Nons[2] = g.Nons[1] },
		"a level of nobody":           func(g *api.Grammar) { g.Levels = []int{api.Left} },
		"a side that is none":         func(g *api.Grammar) { g.Terms[1].Level, g.Levels = 1, []int{4} },
		"no productions":              func(g *api.Grammar) { g.Prods = nil },
		"a name too many":             func(g *api.Grammar) { g.Nons = append(g.Nons, "n") },
		"a terminal for a left":       func(g *api.Grammar) { g.Prods[1].Left = 1 },
		"a left that is nothing":      func(g *api.Grammar) { g.Prods[1].Left = math.MaxInt },
		"the end marker in a right":   func(g *api.Grammar) { g.Prods[1].Right[0] = 0 },
		"a symbol below all":          func(g *api.Grammar) { g.Prods[1].Right[0] = -1 },
		"a symbol behind all":         func(g *api.Grammar) { g.Prods[1].Right[0] = len(g.Terms) + len(g.Nons) },
		"a symbol far above":          func(g *api.Grammar) { g.Prods[1].Right[0] = math.MaxInt },
		"a production's level":        func(g *api.Grammar) { g.Prods[1].Level = 1 },
		"a start that is a terminal":  func(g *api.Grammar) { g.Start = 1 },
		"a start that is nothing":     func(g *api.Grammar) { g.Start = math.MinInt },
		"a start behind all":          func(g *api.Grammar) { g.Start = len(g.Terms) + len(g.Nons) },
	} {
		for kind, g := range map[string]api.Grammar{"a plain grammar": example(t), "a closed grammar": closedOf(example(t))} {
			spoil(&g)
			wantArg(t, kind+" with "+what, g)
		}
	}
}

func TestMoreThanMayBe(t *testing.T) {
	g := chain(api.MaxSyms)
	wantArg(t, "a plain grammar with a symbol too many", g)
	wantArg(t, "a closed grammar with a symbol too many", closedOf(g))
	g = chain(api.MaxSyms - 1)
	for len(g.Prods) <= api.MaxProds {
		g.Prods = append(g.Prods, api.Prod{Left: 2})
	}
	wantArg(t, "a plain grammar with a production too many", g)
	wantArg(t, "a closed grammar with a production too many", closedOf(g))
}

func TestWhatIsNearlyPlainOrClosed(t *testing.T) {
	plain := read(t, "s : a 'x' ; a : ;")
	closed := closedOf(plain)
	for what, g := range map[string]api.Grammar{
		"nonterminals out of order": {Terms: plain.Terms, Nons: plain.Nons, Start: 2, Prods: []api.Prod{{Left: 3}, {Left: 2}}},
		"an added one alone":        {Terms: plain.Terms, Nons: closed.Nons, Start: 3, Prods: closed.Prods[1:]},
		"an added one that starts":  {Terms: plain.Terms, Nons: closed.Nons, Start: 2, Prods: closed.Prods},
		"an added one in a right":   {Terms: plain.Terms, Nons: closed.Nons, Start: 3, Prods: append(closed.Prods[:3:3], api.Prod{Left: 4, Right: []int{2}})},
		"an added one twice a left": {Terms: plain.Terms, Nons: closed.Nons, Start: 3, Prods: append(closed.Prods[:3:3], closed.Prods[0])},
		"an added one further back": {Terms: plain.Terms, Nons: []string{"s", "a", ""}, Start: 2, Prods: append(slices.Clone(plain.Prods), api.Prod{Left: 4, Right: []int{2}})},
	} {
		wantArg(t, "one with "+what, g)
	}
}

// P7.3

func TestRowsOfTheExample(t *testing.T) {
	g := example(t)
	wantRow(t, g, []int{5, 1}, []int{1, 3}, false)
	wantRow(t, g, []int{5, 5}, []int{3}, true)
	wantRow(t, g, nil, nil, true)
	wantRow(t, g, []int{0}, []int{0}, false)
	wantRow(t, g, []int{6, 1}, nil, false)
	wantRowArg(t, "a symbol behind all", g, 7)
}

func TestRows(t *testing.T) {
	g := read(t, "%token x y z w; s : a b 'x' ; a : 'y' | ; b : a 'z' | c ; c : ; d : d 'w' ;")
	for _, c := range []struct {
		row, want string
		vanishes  bool
	}{
		{"", "", true},
		{"$end", "$end", false},
		{"x", "x", false},
		{"x x", "x", false},
		{"w y", "w", false},
		{"x $end", "x", false},
		{"$end x", "$end", false},
		{"$end $end", "$end", false},
		{"s", "x y z", false},
		{"a", "y", true},
		{"b", "y z", true},
		{"c", "", true},
		{"d", "", false},
		{"a $end", "$end y", false},
		{"c $end", "$end", false},
		{"d $end", "", false},
		{"s $end", "x y z", false},
		{"a a", "y", true},
		{"c c c", "", true},
		{"c a c", "y", true},
		{"a b", "y z", true},
		{"b a", "y z", true},
		{"c b c a c", "y z", true},
		{"c b c a c w c", "y z w", false},
		{"c b c a c w $end", "y z w", false},
		{"a d b", "y", false},
		{"d a b", "", false},
		{"a x b", "x y", false},
		{"a a x", "x y", false},
		{"b w x", "y z w", false},
		{"c s", "x y z", false},
		{"b s a", "x y z", false},
	} {
		want := numbered(t, g, c.want)
		slices.Sort(want)
		wantRow(t, g, numbered(t, g, c.row), want, c.vanishes)
	}
}

func TestRowsOfTheAddedOne(t *testing.T) {
	g := closedOf(read(t, "s : 'x' s | ; a : s 'y' ;"))
	wantRow(t, g, []int{3}, []int{1}, true)
	wantRow(t, g, []int{3, 3}, []int{1}, true)
	wantRow(t, g, []int{3, 0}, []int{0, 1}, false)
	wantRow(t, g, []int{3, 5}, []int{1, 2}, false)
	wantRowArg(t, "a symbol behind all of a closed grammar", g, 6)
}

// A bad symbol is bad wherever it stands, behind one that does not vanish too.
func TestRowsOfWhatIsNoSymbol(t *testing.T) {
	plain := example(t)
	for _, g := range []api.Grammar{plain, closedOf(plain)} {
		symbols := len(g.Terms) + len(g.Nons)
		for _, bad := range []int{-1, -2, symbols, symbols + 1, 64, 1024, math.MaxInt32, math.MinInt, math.MaxInt} {
			for _, row := range [][]int{{bad}, {bad, bad}, {1, bad}, {bad, 1}, {0, bad}, {symbols - 1, bad}, {5, bad, 5}, {5, 5, 1, 0, bad}, {1, 2, bad, 3}} {
				wantRowArg(t, "one with "+strconv.Itoa(bad), g, row...)
			}
		}
		for sym := range symbols {
			if _, _, err := first.Row(g, sym); err != api.OK {
				t.Errorf("Row(%v, %d) answers %d", g, sym, err)
			}
		}
	}
}

// R1: rows that share memory may stand for far more than there is.
func TestRowsThatShareMemory(t *testing.T) {
	const length = api.MaxSyms - 1
	row := make([]int, 1<<16)
	for i := range row {
		row[i] = 2 + i%length
	}
	g := chain(length)
	for len(g.Prods) < api.MaxProds {
		g.Prods = append(g.Prods, api.Prod{Left: len(g.Prods) - 61, Right: row})
	}
	wantBoth(t, g, times(length, []int{}), times(length, true))
	wantRow(t, g, row, nil, true)
	row[len(row)-1] = 1
	sets := times(length, []int{})
	for i := range api.MaxProds - length {
		sets[i] = []int{1}
	}
	wantBoth(t, g, sets, times(length, true))
	wantRow(t, g, row, []int{1}, false)
	row[len(row)-1] = 0
	wantRowArg(t, "a row that is a bad right, too", g, row...)
	for i := range g.Prods {
		g.Prods[i].Right = row[:len(row)-1]
	}
	wantBoth(t, g, times(length, []int{}), times(length, false))
	wantRow(t, g, row, nil, false)
	g.Prods[api.MaxProds-1].Right = nil
	nullable := times(length, false)
	nullable[g.Prods[api.MaxProds-1].Left-2] = true
	wantBoth(t, g, times(length, []int{}), nullable)
}

// R3

// roomy is a grammar whose lists all have spare room, with marks in it.
func roomy(g api.Grammar) api.Grammar {
	g = gram.Copy(g)
	g.Terms = append(g.Terms, api.Term{Name: "spare"})[:len(g.Terms)]
	g.Nons = append(g.Nons, "spare")[:len(g.Nons)]
	g.Levels = append(g.Levels, 77)[:len(g.Levels)]
	for i, p := range g.Prods {
		g.Prods[i].Right = append(p.Right, 77)[:len(p.Right)]
	}
	g.Prods = append(g.Prods, api.Prod{Left: 77})[:len(g.Prods)]
	return g
}

func isUntouched(g, want api.Grammar) bool {
	for i, p := range g.Prods {
		if p.Right[:len(want.Prods[i].Right)+1][len(want.Prods[i].Right)] != 77 {
			return false
		}
	}
	return gram.Same(g, want) && g.Terms[:len(g.Terms)+1][len(g.Terms)].Name == "spare" && g.Nons[:len(g.Nons)+1][len(g.Nons)] == "spare" &&
		g.Levels[:len(g.Levels)+1][len(g.Levels)] == 77 && g.Prods[:len(g.Prods)+1][len(g.Prods)].Left == 77
}

// overwrite writes over a list, spare room too.
func overwrite(list []int) {
	for i := range cap(list) {
		list[:cap(list)][i] = -7
	}
}

func TestWhatIsHandedInIsNotChanged(t *testing.T) {
	want := read(t, "%left '+'; %right '*'; s : s '+' s | a s '*' | a ; a : b b | 'x' ; b : | a 'y' ;")
	g := roomy(want)
	row := []int{6, 7, 2, 1, 77}
	first.Nullable(g)
	first.Sets(g)
	first.Row(g, row[:4]...)
	if !isUntouched(g, want) || !slices.Equal(row, []int{6, 7, 2, 1, 77}) {
		t.Errorf("the grammar became %v, it was %v; the row became %v", g, want, row)
	}
}

func TestAnswersAreNewMemory(t *testing.T) {
	g := read(t, "s : a s | 'x' ; a : b b | 'y' ; b : 'z' | ; c : c ;")
	want, _ := first.Sets(g)
	for at := range want {
		sets, _ := first.Sets(g)
		overwrite(sets[at])
		for i := range want {
			if i != at && !slices.Equal(sets[i], want[i]) {
				t.Errorf("the sets %d and %d of %v are one", at, i, sets)
			}
		}
	}
	row := []int{6, 5, 1}
	set, _, _ := first.Row(g, row...)
	overwrite(set)
	nullable, _ := first.Nullable(g)
	clear(nullable[:cap(nullable)])
	if !slices.Equal(row, []int{6, 5, 1}) {
		t.Errorf("what was answered is the argument's: %v", row)
	}
	wantFound(t, g, [][]int{{1, 2, 3}, {2, 3}, {3}, nil}, []bool{false, true, true, false})
	wantRow(t, g, row, []int{1, 2, 3}, false)
}
