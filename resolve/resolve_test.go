package resolve_test

import (
	"math"
	"regexp"
	"slices"
	"strconv"
	"strings"
	"testing"

	"presage/api"
	"presage/gram"
	"presage/reach"
	"presage/resolve"
	"presage/spec"
)

// read is the grammar of a text, reduced and closed.
func read(t *testing.T, text string) api.Grammar {
	t.Helper()
	g, mishap := spec.Read(text)
	if mishap.Code != api.OK {
		t.Fatalf("Read(%q) answers %v", text, mishap)
	}
	c, err := reach.Reduce(g)
	if err != api.OK {
		t.Fatalf("Reduce of %q answers %d", text, err)
	}
	return c
}

func shift(state int) api.Action { return api.Action{Kind: api.Shift, To: state} }

func reduce(prod int) api.Action { return api.Action{Kind: api.Reduce, To: prod} }

func accept() api.Action { return api.Action{Kind: api.Accept} }

// told are actions as a text: - for None, x for Refuse, a for Accept, s and r with their To.
func told(actions ...api.Action) string {
	var words []string
	for _, action := range actions {
		to := strconv.Itoa(action.To)
		switch action {
		case api.Action{}:
			words = append(words, "-")
		case api.Action{Kind: api.Refuse}:
			words = append(words, "x")
		case accept():
			words = append(words, "a")
		case shift(action.To):
			words = append(words, "s"+to)
		case reduce(action.To):
			words = append(words, "r"+to)
		default:
			words = append(words, "kind "+strconv.Itoa(action.Kind)+" to "+to)
		}
	}
	return strings.Join(words, " ")
}

// operators are + 1, * 2, < 3 and n 4; the productions are 1 to 4 behind the added one.
const operators = "%left '+'; %left '*'; %nonassoc '<'; e : e '+' e | e '*' e | e '<' e | n ;"

// P15.1

func wantSide(t *testing.T, g api.Grammar, prod, term, want int) {
	t.Helper()
	if got, err := resolve.Side(g, prod, term); err != api.OK || got != want {
		t.Errorf("Side(%v, %d, %d) is %d, %d; want %d", g, prod, term, got, err, want)
	}
}

func wantNoSide(t *testing.T, g api.Grammar, prod, term int) {
	t.Helper()
	if got, err := resolve.Side(g, prod, term); err != api.ErrArg || got != 0 {
		t.Errorf("Side(%v, %d, %d) is %d, %d; want ErrArg alone", g, prod, term, got, err)
	}
}

func TestSideOfTheExamples(t *testing.T) {
	g := read(t, operators)
	for _, c := range []struct{ prod, term, want int }{{1, 1, 2}, {1, 2, 1}, {2, 1, 2}, {3, 3, 3}, {4, 1, 0}, {1, 0, 0}} {
		wantSide(t, g, c.prod, c.term, c.want)
	}
	wantNoSide(t, g, 5, 1)
	wantNoSide(t, g, 1, 7)
}

// levelled has the levels 1 to 4, of the sides that are told; the terminals 1 to 4 have these levels, 5 has none; so have the productions 1 to 4 and 5, and 6 has none either.
func levelled(sides ...int) api.Grammar {
	g := api.Grammar{
		Terms:  []api.Term{{}, {Name: "t1", Level: 1}, {Name: "t2", Level: 2}, {Name: "t3", Level: 3}, {Name: "t4", Level: 4}, {Name: "t5"}},
		Nons:   []string{"", "s"},
		Levels: sides,
		Start:  7,
		Prods:  []api.Prod{{Left: 6, Right: []int{7}}},
	}
	for level := range 5 {
		g.Prods = append(g.Prods, api.Prod{Left: 7, Right: []int{5}, Level: (level + 1) % 5})
	}
	g.Prods = append(g.Prods, api.Prod{Left: 7})
	return g
}

func TestSideOfAllLevels(t *testing.T) {
	g := levelled(api.Left, api.Right, api.Neither, api.Left)
	// A line for each production, from the added one on; in it the end marker first.
	for prod, line := range []string{
		"0 0 0 0 0 0",
		"0 2 1 1 1 0",
		"0 2 1 1 1 0",
		"0 2 2 3 1 0",
		"0 2 2 2 2 0",
		"0 0 0 0 0 0",
		"0 0 0 0 0 0",
	} {
		for term, want := range strings.Fields(line) {
			number, _ := strconv.Atoi(want)
			wantSide(t, g, prod, term, number)
		}
	}
}

// The sides of other levels count for nothing, the level's own does.
func TestSideOfAllSides(t *testing.T) {
	wants := []int{api.Left: api.TakeReduce, api.Right: api.TakeShift, api.Neither: api.TakeNone}
	for number := range 3 * 3 * 3 * 3 {
		sides := []int{1 + number%3, 1 + number/3%3, 1 + number/9%3, 1 + number/27}
		g := levelled(sides...)
		for prod := 1; prod <= 4; prod++ {
			for term := 1; term <= 4; term++ {
				want := wants[sides[prod-1]]
				if prod > term {
					want = api.TakeReduce
				}
				if prod < term {
					want = api.TakeShift
				}
				wantSide(t, g, prod, term, want)
			}
		}
	}
}

// As many levels as may be: each terminal has its own, the production's is one of them.
func TestSideOfTheMostLevels(t *testing.T) {
	const most = api.MaxSyms - 1
	g := api.Grammar{Terms: []api.Term{{}}, Nons: []string{"", "s"}, Start: most + 2, Prods: []api.Prod{{Left: most + 1, Right: []int{most + 2}}}}
	for level := 1; level <= most; level++ {
		g.Terms = append(g.Terms, api.Term{Name: "t" + strconv.Itoa(level), Level: level})
		g.Levels = append(g.Levels, 1+level%3)
		g.Prods = append(g.Prods, api.Prod{Left: most + 2, Level: most + 1 - level})
	}
	// 63 is a level of the side Left, 1 one of the side Right.
	wantSide(t, g, 1, most, api.TakeReduce)
	wantSide(t, g, 1, most-1, api.TakeReduce)
	wantSide(t, g, 1, 1, api.TakeReduce)
	wantSide(t, g, 2, most, api.TakeShift)
	wantSide(t, g, most, 1, api.TakeShift)
	wantSide(t, g, most, most, api.TakeShift)
	wantNoSide(t, g, 1, most+1)
	wantNoSide(t, g, most+1, 1)
}

func TestNoSide(t *testing.T) {
	g := read(t, operators)
	// The added production is one, the end marker a terminal; a nonterminal is none.
	for term := range g.Terms {
		wantSide(t, g, 0, term, api.Open)
	}
	for _, c := range [][2]int{{-1, 1}, {5, 1}, {math.MaxInt, 1}, {math.MinInt, 1}, {1, -1}, {1, 5}, {1, 6}, {1, math.MaxInt}, {1, math.MinInt}, {4, 5}, {-1, -1}, {5, 5}} {
		wantNoSide(t, g, c[0], c[1])
	}
}

// P15.2

// wantCell wants an action and, of a cell, those that are left open, as texts, whatever its state is.
func wantCell(t *testing.T, g api.Grammar, term int, taken, open string, actions ...api.Action) {
	t.Helper()
	for _, state := range []int{0, -1, api.MaxStates, math.MaxInt, math.MinInt} {
		got, left, err := resolve.Cell(g, api.Cell{State: state, Term: term, Actions: actions})
		if err != api.OK || told(got) != taken || told(left...) != open {
			t.Errorf("Cell of the term %d and %s is %s, open %q, %d; want %s, %q", term, told(actions...), told(got), told(left...), err, taken, open)
		}
	}
}

func wantNoCell(t *testing.T, g api.Grammar, term int, actions ...api.Action) {
	t.Helper()
	got, left, err := resolve.Cell(g, api.Cell{Term: term, Actions: actions})
	if err != api.ErrArg || got != (api.Action{}) || len(left) != 0 {
		t.Errorf("Cell of the term %d and %s is %s, open %q, %d; want ErrArg alone", term, told(actions...), told(got), told(left...), err)
	}
}

func TestCellOfTheExamples(t *testing.T) {
	g := read(t, operators)
	wantCell(t, g, 2, "s6", "", shift(6), reduce(1))
	wantCell(t, g, 1, "r1", "", shift(6), reduce(1))
	wantCell(t, g, 3, "x", "", shift(6), reduce(3))
	wantCell(t, g, 4, "s6", "s6 r1", shift(6), reduce(1))
	wantCell(t, g, 0, "a", "a r2 r4", accept(), reduce(2), reduce(4))
	wantCell(t, g, 1, "-", "")
	wantNoCell(t, g, 1, reduce(1), shift(6))
	wantNoCell(t, g, 1, reduce(0))
	wantNoCell(t, g, 1, reduce(2), reduce(1))
	wantNoCell(t, g, 1, shift(-1))
}

func TestCell(t *testing.T) {
	g := levelled(api.Left, api.Right, api.Neither, api.Left)
	for _, c := range []struct {
		term        int
		actions     []api.Action
		taken, open string
	}{
		// One action alone is held against nothing.
		{1, []api.Action{shift(0)}, "s0", ""},
		{1, []api.Action{reduce(1)}, "r1", ""},
		{0, []api.Action{accept()}, "a", ""},
		{3, []api.Action{shift(math.MaxInt)}, "s" + strconv.Itoa(math.MaxInt), ""},
		// Without a shift all are left, whatever their levels.
		{3, []api.Action{reduce(1), reduce(2), reduce(3), reduce(4)}, "r1", "r1 r2 r3 r4"},
		{3, []api.Action{accept(), reduce(3)}, "a", "a r3"},
		// The level's side.
		{1, []api.Action{shift(7), reduce(1)}, "r1", ""},
		{2, []api.Action{shift(7), reduce(2)}, "s7", ""},
		{3, []api.Action{shift(7), reduce(3)}, "x", ""},
		// A level above, and one below.
		{2, []api.Action{shift(7), reduce(3)}, "r3", ""},
		{4, []api.Action{shift(7), reduce(3)}, "s7", ""},
		// No level, of the production or of the terminal.
		{3, []api.Action{shift(7), reduce(5)}, "s7", "s7 r5"},
		{5, []api.Action{shift(7), reduce(3)}, "s7", "s7 r3"},
		{5, []api.Action{shift(7), reduce(5), reduce(6)}, "s7", "s7 r5 r6"},
		// The shift goes by one; what another one says of it counts all the same.
		{2, []api.Action{shift(7), reduce(1), reduce(4)}, "r4", ""},
		{2, []api.Action{shift(7), reduce(3), reduce(4)}, "r3", "r3 r4"},
		{2, []api.Action{shift(7), reduce(4), reduce(5)}, "r4", "r4 r5"},
		{3, []api.Action{shift(7), reduce(1), reduce(3)}, "x", ""},
		{3, []api.Action{shift(7), reduce(3), reduce(4)}, "r4", ""},
		{3, []api.Action{shift(7), reduce(3), reduce(5)}, "r5", ""},
		{3, []api.Action{shift(7), reduce(3), reduce(5), reduce(6)}, "r5", "r5 r6"},
		{3, []api.Action{shift(7), reduce(1), reduce(2), reduce(3), reduce(4)}, "r4", ""},
		// The shift stays, beside what nothing is said of.
		{4, []api.Action{shift(7), reduce(1), reduce(2), reduce(3)}, "s7", ""},
		{2, []api.Action{shift(7), reduce(1), reduce(5)}, "s7", "s7 r5"},
		// Accept beside a shift is in no table, but in a list that may be: nothing is said of it.
		{1, []api.Action{shift(7), accept()}, "s7", "s7 a"},
		{3, []api.Action{shift(7), accept(), reduce(3)}, "a", ""},
		{4, []api.Action{shift(7), accept(), reduce(3)}, "s7", "s7 a"},
		{2, []api.Action{shift(7), accept(), reduce(3)}, "a", "a r3"},
	} {
		wantCell(t, g, c.term, c.taken, c.open, c.actions...)
	}
}

func TestNoCell(t *testing.T) {
	g := levelled(api.Left, api.Right, api.Neither, api.Left)
	for _, term := range []int{-1, len(g.Terms), len(g.Terms) + 1, math.MaxInt, math.MinInt} {
		wantNoCell(t, g, term)
		wantNoCell(t, g, term, shift(1))
		wantNoCell(t, g, term, reduce(0))
	}
	for _, actions := range [][]api.Action{
		{{}},
		{{Kind: api.Refuse}},
		{{Kind: 5}},
		{{Kind: -1}},
		{{Kind: math.MinInt, To: math.MaxInt}},
		{shift(math.MinInt)},
		{{Kind: api.Accept, To: 1}},
		{{Kind: api.Accept, To: -1}},
		{reduce(-1)},
		{reduce(len(g.Prods))},
		{reduce(math.MaxInt)},
		{shift(1), shift(1)},
		{shift(1), shift(2)},
		{shift(1), {}},
		{accept(), accept()},
		{accept(), shift(1)},
		{reduce(1), accept()},
		{reduce(1), shift(1)},
		{reduce(2), reduce(2)},
		{reduce(3), reduce(2)},
		{reduce(1), reduce(3), reduce(2)},
		{shift(1), reduce(0), reduce(1)},
		{shift(1), accept(), reduce(1), reduce(len(g.Prods))},
		{shift(1), accept(), reduce(1), {Kind: api.Refuse}},
		{reduce(1), {}},
	} {
		for _, term := range []int{0, 1, 3, 5} {
			wantNoCell(t, g, term, actions...)
		}
	}
	wantNoCell(t, g, 1, slices.Repeat([]api.Action{shift(1)}, 1<<20)...)
	wantNoCell(t, g, 1, slices.Repeat([]api.Action{reduce(1)}, 1<<20)...)
}

// P15.1 and P15.2, said a second time

// saidSide is what the document has levels say.
func saidSide(g api.Grammar, prod, term int) string {
	ofProd, ofTerm := g.Prods[prod].Level, g.Terms[term].Level
	if ofProd*ofTerm == 0 {
		return "Open"
	}
	if ofProd != ofTerm {
		return map[bool]string{true: "TakeReduce", false: "TakeShift"}[ofProd > ofTerm]
	}
	return []string{"", "TakeReduce", "TakeShift", "TakeNone"}[g.Levels[ofProd-1]]
}

// saidOfCell is what the document has a cell's actions come to: each goes for itself.
func saidOfCell(g api.Grammar, term int, actions []api.Action) (taken api.Action, open []api.Action) {
	goes, none := make([]bool, len(actions)), false
	for s, a := range actions {
		for r, b := range actions {
			if a.Kind != api.Shift || b.Kind != api.Reduce {
				continue
			}
			says := saidSide(g, b.To, term)
			goes[r] = goes[r] || says == "TakeShift" || says == "TakeNone"
			goes[s] = goes[s] || says == "TakeReduce" || says == "TakeNone"
			none = none || says == "TakeNone"
		}
	}
	var left []api.Action
	for i, action := range actions {
		if !goes[i] {
			left = append(left, action)
		}
	}
	switch {
	case len(left) > 1:
		return left[0], left
	case len(left) == 1:
		return left[0], nil
	case none:
		return api.Action{Kind: api.Refuse}, nil
	}
	return api.Action{}, nil
}

// All lists that may be of six productions, with two shifts, at each terminal.
func TestCellOfAllLists(t *testing.T) {
	refused, open := 0, 0
	for _, sides := range [][]int{{1, 2, 3, 1}, {3, 3, 3, 3}, {2, 1, 2, 3}} {
		g := levelled(sides...)
		for number := range 3 * 2 * 1 << 6 {
			var list []api.Action
			if of := number % 3; of > 0 {
				list = append(list, shift(of*8))
			}
			if number/3%2 > 0 {
				list = append(list, accept())
			}
			for prod := 1; prod <= 6; prod++ {
				if number/6>>(prod-1)&1 > 0 {
					list = append(list, reduce(prod))
				}
			}
			for term := range g.Terms {
				taken, left := saidOfCell(g, term, list)
				wantCell(t, g, term, told(taken), told(left...), list...)
				if taken.Kind == api.Refuse {
					refused++
				}
				if len(left) > 0 {
					open++
				}
			}
		}
	}
	if refused < 50 || open < 1000 {
		t.Errorf("%d cells refuse, %d are open", refused, open)
	}
}

// kindsMayStand tells whether actions, each a letter, may stand in one cell.
var kindsMayStand = regexp.MustCompile("^s?a?r*$")

func mayStand(g api.Grammar, list []api.Action) bool {
	kinds, last := "", 0
	for _, action := range list {
		switch {
		case action.Kind == api.Shift && action.To >= 0:
			kinds += "s"
		case action == accept():
			kinds += "a"
		case action.Kind == api.Reduce && action.To > last && action.To < len(g.Prods):
			kinds += "r"
			last = action.To
		default:
			return false
		}
	}
	return kindsMayStand.MatchString(kinds)
}

// All lists of at most three actions out of all kinds.
func TestWhichListsMayBe(t *testing.T) {
	g := levelled(api.Left, api.Right, api.Neither, api.Left)
	var all []api.Action
	for kind := -1; kind <= 5; kind++ {
		for _, to := range []int{-1, 0, 1, 2, 6, 7} {
			all = append(all, api.Action{Kind: kind, To: to})
		}
	}
	may := 0
	var fill func(list []api.Action)
	fill = func(list []api.Action) {
		got, left, err := resolve.Cell(g, api.Cell{Term: 1, Actions: list})
		if is := mayStand(g, list); is != (err == api.OK) {
			t.Errorf("Cell of %s answers %d", told(list...), err)
		} else if is {
			may++
			wantTaken, wantLeft := saidOfCell(g, 1, list)
			if got != wantTaken || !slices.Equal(left, wantLeft) {
				t.Errorf("Cell of %s is %s, open %q; want %s, %q", told(list...), told(got), told(left...), told(wantTaken), told(wantLeft...))
			}
		}
		for _, action := range all {
			if len(list) < 3 {
				fill(append(slices.Clip(list), action))
			}
		}
	}
	fill(nil)
	// A shift (to 0, 1, 2, 6, 7) or none, Accept or none, and at most three of the productions 1, 2 and 6: three in all.
	if may != 1+(5+1+3)+(5+5*3+3+3)+(5*3+5*3+3+1) {
		t.Errorf("%d lists may be", may)
	}
}

// R3

// overwrite writes over a list, spare room too.
func overwrite[T any](list []T, by T) {
	for i := range cap(list) {
		list[:cap(list)][i] = by
	}
}

func TestCellsAreNewMemory(t *testing.T) {
	g := levelled(api.Left, api.Right, api.Neither, api.Left)
	for _, c := range []struct {
		term    int
		actions []api.Action
		open    string
	}{
		{5, []api.Action{shift(7), reduce(1), reduce(2)}, "s7 r1 r2"},
		{3, []api.Action{reduce(1), reduce(2), reduce(3)}, "r1 r2 r3"},
		{2, []api.Action{shift(7), reduce(3), reduce(4)}, "r3 r4"},
		{0, []api.Action{accept(), reduce(1)}, "a r1"},
		{4, []api.Action{shift(7), reduce(1)}, ""},
	} {
		list := append(slices.Grow(c.actions, 3), reduce(88))[:len(c.actions)]
		want := told(list...)
		_, open, _ := resolve.Cell(g, api.Cell{Term: c.term, Actions: list})
		overwrite(open, reduce(77))
		if told(list...) != want || list[:len(list)+1][len(list)] != reduce(88) {
			t.Errorf("the actions %s became %s, and %s behind them", want, told(list...), told(list[len(list):cap(list)]...))
		}
		_, open, _ = resolve.Cell(g, api.Cell{Term: c.term, Actions: list})
		overwrite(list, reduce(66))
		if told(open...) != c.open {
			t.Errorf("the open ones %s became %s", c.open, told(open...))
		}
	}
}

// R6

// wantError wants that all calls answer that error alone, Side and Cell also of what is nowhere.
func wantError(t *testing.T, what string, g api.Grammar, want api.Errno) {
	t.Helper()
	if got, err := resolve.Settle(g); err != want || got.Dense.Actions != nil || got.Dense.Gotos != nil || got.Conflicts != nil {
		t.Errorf("Settle of %s is %v, %d; want %d alone", what, got, err, want)
	}
	if got, err := resolve.Report(g); err != want || got != "" {
		t.Errorf("Report of %s is %q, %d; want %d alone", what, got, err, want)
	}
	if want == api.ErrArg {
		for _, at := range []int{0, 1, -1, math.MaxInt} {
			wantNoSide(t, g, at, 0)
			wantNoSide(t, g, 0, at)
			wantNoCell(t, g, at)
			wantNoCell(t, g, at, reduce(1))
		}
	}
}

func TestNoGrammar(t *testing.T) {
	wantError(t, "nothing", api.Grammar{}, api.ErrArg)
	wantError(t, "an end marker alone", api.Grammar{Terms: []api.Term{{}}}, api.ErrArg)
	for what, spoil := range map[string]func(g *api.Grammar){
		"an end marker with a level":   func(g *api.Grammar) { g.Terms[0].Level = 1 },
		"a terminal of no level":       func(g *api.Grammar) { g.Terms[4].Level = 4 },
		"a terminal below all levels":  func(g *api.Grammar) { g.Terms[4].Level = -1 },
		"a production of no level":     func(g *api.Grammar) { g.Prods[4].Level = 4 },
		"a production below them":      func(g *api.Grammar) { g.Prods[4].Level = math.MinInt },
		"an added one with a level":    func(g *api.Grammar) { g.Prods[0].Level = 1 },
		"a level that no terminal has": func(g *api.Grammar) { g.Terms[3].Level = 2 },
		"a side above all":             func(g *api.Grammar) { g.Levels[1] = 4 },
		"a side below all":             func(g *api.Grammar) { g.Levels[1] = 0 },
		"no levels":                    func(g *api.Grammar) { g.Levels = nil },
		"no productions":               func(g *api.Grammar) { g.Prods = nil },
		"no added production":          func(g *api.Grammar) { g.Prods = g.Prods[1:] },
		"no added one":                 func(g *api.Grammar) { g.Nons[0] = "n" },
		"the end marker in a right":    func(g *api.Grammar) { g.Prods[1].Right[1] = 0 },
		"a symbol behind all":          func(g *api.Grammar) { g.Prods[1].Right[1] = 7 },
		"a start that is a terminal":   func(g *api.Grammar) { g.Start = 1 },
	} {
		g := read(t, operators)
		spoil(&g)
		wantError(t, "a closed grammar with "+what, g, api.ErrArg)
	}
}

// What is plain is never closed.
func TestPlainGrammars(t *testing.T) {
	for _, text := range []string{operators, "s : ;", "%right 'x'; s : s 'x' s | ;"} {
		g, _ := spec.Read(text)
		if !gram.Valid(g) {
			t.Fatalf("%q is not plain", text)
		}
		wantError(t, "the plain grammar "+text, g, api.ErrArg)
	}
}
