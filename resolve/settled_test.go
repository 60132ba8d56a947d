package resolve_test

import (
	"slices"
	"strconv"
	"strings"
	"testing"

	"presage/api"
	"presage/gram"
	"presage/resolve"
)

// toldNumbers are states by nonterminals as a text: - for none.
func toldNumbers(list []int) string {
	var words []string
	for _, number := range list {
		word := strconv.Itoa(number)
		if number == -1 {
			word = "-"
		}
		words = append(words, word)
	}
	return strings.Join(words, " ")
}

// toldDense is a table as a text: of each state its actions, and behind a | its states by nonterminals; a / between two states.
func toldDense(d api.Dense) string {
	if len(d.Actions) != len(d.Gotos) {
		return strconv.Itoa(len(d.Actions)) + " and " + strconv.Itoa(len(d.Gotos)) + " states"
	}
	var rows []string
	for state, actions := range d.Actions {
		rows = append(rows, told(actions...)+" | "+toldNumbers(d.Gotos[state]))
	}
	return strings.Join(rows, " / ")
}

// toldCells are cells as a text: State.Term: and the actions, a / between two of them.
func toldCells(list []api.Cell) string {
	var words []string
	for _, one := range list {
		words = append(words, strconv.Itoa(one.State)+"."+strconv.Itoa(one.Term)+": "+told(one.Actions...))
	}
	return strings.Join(words, " / ")
}

func wantSettled(t *testing.T, g api.Grammar, dense, conflicts string) {
	t.Helper()
	got, err := resolve.Settle(g)
	if err != api.OK || toldDense(got.Dense) != dense || toldCells(got.Conflicts) != conflicts {
		t.Errorf("Settle(%v) is %s, open %q, %d; want %s, %q", g, toldDense(got.Dense), toldCells(got.Conflicts), err, dense, conflicts)
	}
}

// wantReport wants these lines, each with its end.
func wantReport(t *testing.T, g api.Grammar, lines ...string) {
	t.Helper()
	want := strings.Join(append(slices.Clip(lines), ""), "\n")
	if got, err := resolve.Report(g); err != api.OK || got != want {
		t.Errorf("Report(%v) is %q, %d; want %q", g, got, err, want)
	}
}

// twoSided has + 1 and n 2, the states 1 behind n, 2 behind e, 3 behind e +, 4 behind e + e.
const twoSided = "%token '+' n; e : e '+' e | n ;"

// Behind x, state 1, three actions meet at y: r4 and r5, of the productions a : x and b : x, are held against the shift of s : x y.
const (
	threeOpen   = "%token y x; s : a 'y' | b 'y' | 'x' 'y' ; a : 'x' ; b : 'x' ;"
	shiftGoes   = "%token y x z; %left y; %left z; s : a 'y' | b 'y' | 'x' 'y' ; a : 'x' %prec z ; b : 'x' ;"
	reduceGoes  = "%token y x z; %left z; %left y; s : a 'y' | b 'y' | 'x' 'y' ; a : 'x' %prec z ; b : 'x' ;"
	bothGo      = "%token y x; %nonassoc y; s : a 'y' | b 'y' | 'x' 'y' ; a : 'x' ; b : 'x' %prec y ;"
	allGo       = "%token y x; %nonassoc y; s : a 'y' | b 'y' | 'x' 'y' ; a : 'x' %prec y ; b : 'x' %prec y ;"
	oneOfTwo    = "%token y x z; %left z; %left y; s : a 'y' | b 'y' | 'x' 'y' ; a : 'x' %prec z ; b : 'x' %prec y ;"
	mixed       = "s : 'a' a 'd' | 'b' b 'd' | 'a' b 'e' | 'b' a 'e' ; a : 'c' ; b : 'c' ;"
	manySided   = "e : e '+' e | e '*' e | n ;"
	nothingThen = "s : 'x' s 'x' | ;"
)

// P15.3

func TestSettle(t *testing.T) {
	for _, c := range []struct{ text, dense, conflicts string }{
		{"a : ;", "r1 | - 1 / a | - -", ""},
		{"a : 'x' ;", "- s1 | - 2 / r1 - | - - / a - | - -", ""},
		{twoSided, "- - s1 | - 2 / r2 r2 - | - - / a s3 - | - - / - - s1 | - 4 / r1 s3 - | - -", "4.1: s3 r1"},
		{"%left '+'; " + twoSided[len("%token '+' n; "):], "- - s1 | - 2 / r2 r2 - | - - / a s3 - | - - / - - s1 | - 4 / r1 r1 - | - -", ""},
		{"%right '+'; " + twoSided[len("%token '+' n; "):], "- - s1 | - 2 / r2 r2 - | - - / a s3 - | - - / - - s1 | - 4 / r1 s3 - | - -", ""},
		{"%nonassoc '+'; " + twoSided[len("%token '+' n; "):], "- - s1 | - 2 / r2 r2 - | - - / a s3 - | - - / - - s1 | - 4 / r1 x - | - -", ""},
		// A level of n settles nothing, nor does one of + if the production has none.
		{"%token '+'; %left n; e : e '+' e | n ;", "- - s1 | - 2 / r2 r2 - | - - / a s3 - | - - / - - s1 | - 4 / r1 s3 - | - -", "4.1: s3 r1"},
		{"%left '+'; e : e '+' e %none | n ;", "- - s1 | - 2 / r2 r2 - | - - / a s3 - | - - / - - s1 | - 4 / r1 s3 - | - -", "4.1: s3 r1"},
		// Behind x, state 1, one more x is shifted, or the empty row reduced ahead of it.
		{nothingThen, "r2 s1 | - 2 / - s1 | - 3 / a - | - - / - s4 | - - / r1 r1 | - -", "1.1: s1 r2"},
		{"%left x; s : 'x' s 'x' | %prec x ;", "r2 s1 | - 2 / - r2 | - 3 / a - | - - / - s4 | - - / r1 r1 | - -", ""},
	} {
		wantSettled(t, read(t, c.text), c.dense, c.conflicts)
	}
}

// The cell behind x, with three actions.
func TestSettleOfThreeActions(t *testing.T) {
	for _, c := range []struct{ text, taken, conflicts string }{
		{threeOpen, "s5", "1.1: s5 r4 r5"},
		{shiftGoes, "r4", "1.1: r4 r5"},
		{reduceGoes, "s5", "1.1: s5 r5"},
		{bothGo, "r4", ""},
		{allGo, "x", ""},
		{oneOfTwo, "r5", ""},
	} {
		g := read(t, c.text)
		got, err := resolve.Settle(g)
		if err != api.OK || told(got.Dense.Actions[1][1]) != c.taken || toldCells(got.Conflicts) != c.conflicts {
			t.Errorf("Settle of %s has %s, open %q, %d; want %s, %q", c.text, told(got.Dense.Actions[1][1]), toldCells(got.Conflicts), err, c.taken, c.conflicts)
		}
	}
}

func TestSettleOfTheExamplesOfTheWhole(t *testing.T) {
	for _, c := range []struct{ text, conflicts string }{
		{"%left '+'; %left '*'; " + manySided, ""},
		{manySided, "5.1: s3 r1 / 5.2: s4 r1 / 6.1: s3 r2 / 6.2: s4 r2"},
		// * is 1 here, + 2: the one cell in which both have a level, behind e * e at *, is settled.
		{"%left '*'; " + manySided, "5.2: s4 r2 / 6.1: s3 r1 / 6.2: s4 r1"},
		{"s : a 'x' | 'y' a 'z' | b 'z' | 'y' b 'x' ; a : 'w' ; b : 'w' ;", "2.1: r5 r6 / 2.3: r5 r6"},
		// Levels settle no two reductions.
		{"%left 'x'; %left 'z'; s : a 'x' | 'y' a 'z' | b 'z' | 'y' b 'x' ; a : 'w' %prec 'z' ; b : 'w' %prec 'x' ;", "2.1: r5 r6 / 2.2: r5 r6"},
		{mixed, "4.2: r5 r6 / 4.4: r5 r6"},
		{"%nonassoc '<'; e : e '<' e | n ;", ""},
	} {
		got, err := resolve.Settle(read(t, c.text))
		if err != api.OK || toldCells(got.Conflicts) != c.conflicts {
			t.Errorf("Settle of %s leaves %q open, %d; want %q", c.text, toldCells(got.Conflicts), err, c.conflicts)
		}
	}
}

// A terminal's level counts in the cells of that terminal alone, a production's in those of all.
func TestSettleByManyLevels(t *testing.T) {
	g := read(t, operators)
	got, err := resolve.Settle(g)
	if err != api.OK || len(got.Conflicts) > 0 || len(got.Dense.Actions) != 9 {
		t.Fatalf("Settle of %s is %v, %d", operators, got, err)
	}
	// 6 is behind e + e, 7 behind e * e, 8 behind e < e; + is 3, * 4, < 5.
	for state, want := range map[int]string{2: "a s3 s4 s5 -", 6: "r1 r1 s4 s5 -", 7: "r2 r2 r2 s5 -", 8: "r3 r3 r3 x -"} {
		if told(got.Dense.Actions[state]...) != want {
			t.Errorf("the state %d has %s, want %s", state, told(got.Dense.Actions[state]...), want)
		}
	}
}

// A closed grammar may have its nonterminals and productions in any order, and some that are of no use.
func TestSettleOfAClosedGrammarOfItsOwnOrder(t *testing.T) {
	g := api.Grammar{
		Terms:  []api.Term{{}, {Name: "x", Level: 1}, {Name: "b"}},
		Nons:   []string{"", "b", "u", "a"},
		Levels: []int{api.Right},
		Start:  6,
		Prods:  []api.Prod{{Left: 3, Right: []int{6}}, {Left: 6, Right: []int{4, 1}}, {Left: 4, Level: 1}, {Left: 5, Right: []int{5}}, {Left: 6, Right: []int{4, 6}}, {Left: 4, Right: []int{2}}},
	}
	// a : b x | b a and b : | 'b'; state 1 is behind 'b', 2 behind b, 3 behind a, 4 behind b x, 5 behind b a. Of u, nonterminal 2, there is no state.
	wantSettled(t, g, "- r2 s1 | - 2 - 3 / - r5 r5 | - - - - / - s4 s1 | - 2 - 5 / a - - | - - - - / r1 - - | - - - - / r4 - - | - - - -", "0.2: s1 r2 / 2.2: s1 r2")
	wantReport(t, g,
		"state 0 at 'b': shift, reduce b ->", "  b -> . 'b'", "  b -> .",
		"state 2 at 'b': shift, reduce b ->", "  b -> . 'b'", "  b -> .")
	// Where a nonterminal derives no row of terminals, the start symbol too.
	g = api.Grammar{Terms: []api.Term{{}, {Name: "x"}}, Nons: []string{"", "s"}, Start: 3, Prods: []api.Prod{{Left: 2, Right: []int{3}}, {Left: 3, Right: []int{3}}}}
	wantSettled(t, g, "- - | - 1 / a - | - -", "1.0: a r1")
	wantReport(t, g, "state 1 at $end: accept, reduce s -> s", "  $start -> s .", "  s -> s .")
}

// P15.4

func TestReport(t *testing.T) {
	wantReport(t, read(t, "a : ;"))
	wantReport(t, read(t, operators))
	wantReport(t, read(t, twoSided),
		"state 4 at '+': shift, reduce e -> e '+' e", "  e -> e . '+' e", "  e -> e '+' e .")
	wantReport(t, read(t, manySided),
		"state 5 at '+': shift, reduce e -> e '+' e", "  e -> e . '+' e", "  e -> e '+' e .",
		"state 5 at '*': shift, reduce e -> e '+' e", "  e -> e . '*' e", "  e -> e '+' e .",
		"state 6 at '+': shift, reduce e -> e '*' e", "  e -> e . '+' e", "  e -> e '*' e .",
		"state 6 at '*': shift, reduce e -> e '*' e", "  e -> e . '*' e", "  e -> e '*' e .")
	wantReport(t, read(t, mixed),
		"state 4 at 'd': reduce a -> 'c', reduce b -> 'c'", "  a -> 'c' .", "  b -> 'c' .",
		"state 4 at 'e': reduce a -> 'c', reduce b -> 'c'", "  a -> 'c' .", "  b -> 'c' .")
	wantReport(t, read(t, nothingThen),
		"state 1 at 'x': shift, reduce s ->", "  s -> . 'x' s 'x'", "  s -> .")
}

// What has gone is told of in no line.
func TestReportOfWhatIsLeft(t *testing.T) {
	const yFirst, a, b = "  s -> 'x' . 'y'", "  a -> 'x' .", "  b -> 'x' ."
	wantReport(t, read(t, threeOpen), "state 1 at 'y': shift, reduce a -> 'x', reduce b -> 'x'", yFirst, a, b)
	wantReport(t, read(t, shiftGoes), "state 1 at 'y': reduce a -> 'x', reduce b -> 'x'", a, b)
	wantReport(t, read(t, reduceGoes), "state 1 at 'y': shift, reduce b -> 'x'", yFirst, b)
	wantReport(t, read(t, bothGo))
	wantReport(t, read(t, allGo))
	wantReport(t, read(t, oneOfTwo))
}

func TestReportOfTheEnd(t *testing.T) {
	wantReport(t, read(t, "s : s | a | 'x' ; a : s ;"),
		"state 2 at $end: accept, reduce s -> s, reduce a -> s", "  $start -> s .", "  s -> s .", "  a -> s .")
	wantReport(t, read(t, "a : 'x' | 'x' | | ;"),
		"state 0 at $end: reduce a ->, reduce a ->", "  a -> .", "  a -> .",
		"state 1 at $end: reduce a -> 'x', reduce a -> 'x'", "  a -> 'x' .", "  a -> 'x' .")
	// The end marker comes ahead of the other terminals.
	wantReport(t, read(t, "s : a b | 'x' ; a : | c ; c : ; b : | 'y' ;"),
		"state 0 at $end: reduce a ->, reduce c ->", "  a -> .", "  c -> .",
		"state 0 at 'y': reduce a ->, reduce c ->", "  a -> .", "  c -> .")
}

// All items ahead of the terminal are told, those that the kernel brings along too, and no others; in order.
func TestReportOfManyItems(t *testing.T) {
	wantReport(t, read(t, "s : 'x' c | a 'y' | 'x' 'y' 'u' | 'x' 'u' ; a : 'x' ; c : 'y' 'y' | 'u' 'y' | d 'y' ; d : 'y' 'u' ;"),
		"state 1 at 'y': shift, reduce a -> 'x'",
		"  s -> 'x' . 'y' 'u'", "  c -> . 'y' 'y'", "  d -> . 'y' 'u'", "  a -> 'x' .")
	// One production with several Dots in one state: by Prod, then by Dot; but the completed ones come last.
	wantReport(t, read(t, "s : 'y' s 'y' | 'y' 'y' 'y' | 'y' ;"),
		"state 3 at 'y': shift, reduce s -> 'y'",
		"  s -> . 'y' s 'y'", "  s -> . 'y' 'y' 'y'", "  s -> 'y' . 'y' 'y'", "  s -> 'y' 'y' . 'y'", "  s -> . 'y'", "  s -> 'y' .",
		"state 5 at 'y': shift, reduce s -> 'y' 'y' 'y', reduce s -> 'y'",
		"  s -> . 'y' s 'y'", "  s -> . 'y' 'y' 'y'", "  s -> 'y' . 'y' 'y'", "  s -> 'y' 'y' . 'y'", "  s -> . 'y'", "  s -> 'y' 'y' 'y' .", "  s -> 'y' .")
}

// Texts of terminals may look like anything.
func TestReportOfOddTerminals(t *testing.T) {
	wantReport(t, read(t, "e : e ', reduce' e | ' ' | '$end' ; "),
		"state 5 at ', reduce': shift, reduce e -> e ', reduce' e", "  e -> e . ', reduce' e", "  e -> e ', reduce' e .")
}

// The bounds

// long is a closed grammar of s : x .. x, with that many x, two at least: state 1 is behind x, 2 behind s, k + 1 behind k x.
func long(length int) api.Grammar {
	return api.Grammar{
		Terms: []api.Term{{}, {Name: "x"}},
		Nons:  []string{"", "s"},
		Start: 3,
		Prods: []api.Prod{{Left: 2, Right: []int{3}}, {Left: 3, Right: slices.Repeat([]int{1}, length)}},
	}
}

func TestTheMostStates(t *testing.T) {
	const length = api.MaxStates - 2
	rows := []string{"- s1 | - 2", "- s3 | - -", "a - | - -"}
	for state := 3; state < api.MaxStates-1; state++ {
		rows = append(rows, "- s"+strconv.Itoa(state+1)+" | - -")
	}
	wantSettled(t, long(length), strings.Join(append(rows, "r1 - | - -"), " / "), "")
	wantReport(t, long(length))
	wantError(t, "a state too many", long(length+1), api.ErrTooBig)
	wantError(t, "far too many states", long(100000), api.ErrTooBig)
	// Of two errors it is the grammar's.
	g := long(1000)
	g.Levels = []int{api.Left}
	wantError(t, "too many states of what is no grammar", g, api.ErrArg)
}

// e : e t1 e | e t2 e .. | the last terminal: behind e ti e all of them but the last one clash, which levels settle or not.
func manyTerms() api.Grammar {
	const terms = api.MaxSyms - 1
	g := api.Grammar{Terms: []api.Term{{}}, Nons: []string{"", "e"}, Start: terms + 2, Prods: []api.Prod{{Left: terms + 1, Right: []int{terms + 2}}}}
	for i := 1; i <= terms; i++ {
		g.Terms = append(g.Terms, api.Term{Name: "t" + strconv.Itoa(i)})
		right := []int{terms + 2, i, terms + 2}
		if i == terms {
			right = []int{i}
		}
		g.Prods = append(g.Prods, api.Prod{Left: terms + 2, Right: right})
	}
	return g
}

func TestTheMostTerminals(t *testing.T) {
	const signs = api.MaxSyms - 2
	g := manyTerms()
	// State 1 is behind the last terminal, 2 behind e, 2 + i behind e ti, signs + 2 + i behind e ti e.
	var cells, lines []string
	for i := 1; i <= signs; i++ {
		state, prod := strconv.Itoa(signs+2+i), "e -> e 't"+strconv.Itoa(i)+"' e"
		for term := 1; term <= signs; term++ {
			cells = append(cells, state+"."+strconv.Itoa(term)+": "+told(shift(2+term), reduce(i)))
			text := "'t" + strconv.Itoa(term) + "'"
			lines = append(lines, "state "+state+" at "+text+": shift, reduce "+prod, "  e -> e . "+text+" e", "  "+prod+" .")
		}
	}
	got, err := resolve.Settle(g)
	if err != api.OK || toldCells(got.Conflicts) != strings.Join(cells, " / ") {
		t.Errorf("Settle of %d terminals has %d open cells, %d", len(g.Terms), len(got.Conflicts), err)
	}
	wantReport(t, g, lines...)
	g.Terms = append(g.Terms, api.Term{Name: "more"})
	wantError(t, "a symbol too many", g, api.ErrArg)
}

// With as many levels as may be nothing is open: the later operators bind more strongly.
func TestTheMostLevels(t *testing.T) {
	const signs = api.MaxSyms - 2
	g := manyTerms()
	for i := 1; i < len(g.Terms); i++ {
		g.Terms[i].Level, g.Prods[i].Level = i, i
		g.Levels = append(g.Levels, 1+i%3)
	}
	got, err := resolve.Settle(g)
	if err != api.OK || len(got.Conflicts) != 0 {
		t.Fatalf("Settle of %d levels has %d open cells, %d", len(g.Levels), len(got.Conflicts), err)
	}
	for i := 1; i <= signs; i++ {
		for term := 1; term <= signs; term++ {
			want, side := told(shift(2+term)), g.Levels[i-1]
			switch {
			case i > term || i == term && side == api.Left:
				want = told(reduce(i))
			case i == term && side == api.Neither:
				want = "x"
			}
			if is := told(got.Dense.Actions[signs+2+i][term]); is != want {
				t.Errorf("behind e t%d e the table has %s at t%d, want %s", i, is, term, want)
			}
		}
	}
}

// One cell may have all productions, and Accept or a Shift ahead of them.
func TestTheMostActionsOfACell(t *testing.T) {
	g := api.Grammar{Terms: []api.Term{{}}, Nons: []string{"", "a"}, Start: 2, Prods: []api.Prod{{Left: 1, Right: []int{2}}}}
	list := []api.Action{accept()}
	names, items := "accept", []string{"  $start -> a ."}
	for prod := 1; prod <= api.MaxProds; prod++ {
		g.Prods = append(g.Prods, api.Prod{Left: 2, Right: []int{2}})
		list = append(list, reduce(prod))
		names += ", reduce a -> a"
		items = append(items, "  a -> a .")
	}
	wantSettled(t, g, "- | - 1 / a | - -", "1.0: "+told(list...))
	wantReport(t, g, append([]string{"state 1 at $end: " + names}, items...)...)
	wantCell(t, g, 0, "a", told(list...), list...)
	list = append([]api.Action{shift(255)}, list...)
	wantCell(t, g, 0, "s255", told(list...), list...)
	wantNoCell(t, g, 0, append(list, reduce(api.MaxProds+1))...)
	g.Prods = append(g.Prods, api.Prod{Left: 2, Right: []int{2}})
	wantError(t, "a production too many", g, api.ErrArg)
}

// More than a thousand open cells: wherever s may begin, one of 48 empty rows is reduced first, or s itself is empty.
func TestManyOpenCells(t *testing.T) {
	const terms, nons = 15, 48
	g := api.Grammar{Terms: []api.Term{{}}, Nons: []string{"", "s"}, Start: terms + 2, Prods: []api.Prod{{Left: terms + 1, Right: []int{terms + 2}}, {Left: terms + 2}}}
	for i := range terms {
		g.Terms = append(g.Terms, api.Term{Name: "t" + strconv.Itoa(i)})
	}
	for i := range nons {
		g.Nons = append(g.Nons, "n"+strconv.Itoa(i))
		g.Prods = append(g.Prods, api.Prod{Left: terms + 3 + i})
	}
	for i := range api.MaxProds + 1 - len(g.Prods) {
		g.Prods = append(g.Prods, api.Prod{Left: terms + 2, Right: []int{terms + 3 + i, terms + 2, 1 + i%terms, terms + 2}})
	}
	wantAsSaid(t, g)
	got, err := resolve.Settle(g)
	if err != api.OK || len(got.Conflicts) < 1000 {
		t.Errorf("Settle has %d open cells, %d", len(got.Conflicts), err)
	}
}

// R1: rows may be far longer than there are states, where nothing leads to them, and may share memory.

func TestLongRowsThatNothingReaches(t *testing.T) {
	g := read(t, twoSided)
	g.Nons = append(g.Nons, "u")
	row := slices.Repeat([]int{4, 1, 5, 2}, 1<<16)
	for len(g.Prods) <= api.MaxProds {
		g.Prods = append(g.Prods, api.Prod{Left: 5, Right: row})
	}
	wantSettled(t, g, "- - s1 | - 2 - / r2 r2 - | - - - / a s3 - | - - - / - - s1 | - 4 - / r1 s3 - | - - -", "4.1: s3 r1")
	wantReport(t, g, "state 4 at '+': shift, reduce e -> e '+' e", "  e -> e . '+' e", "  e -> e '+' e .")
	wantSide(t, g, api.MaxProds, 1, api.Open)
	wantCell(t, g, 1, "s9", "s9 r96", shift(9), reduce(api.MaxProds))
}

func TestRowsThatShareMemory(t *testing.T) {
	g := long(2)
	row := slices.Repeat([]int{1}, 1<<16)
	for len(g.Prods) <= api.MaxProds {
		g.Prods = append(g.Prods, api.Prod{Left: 3, Right: row})
	}
	wantError(t, "rows that are far too long", g, api.ErrTooBig)
	g.Prods = g.Prods[:4]
	for i := range g.Prods[1:] {
		g.Prods[1+i].Right = row[:1+i%2]
	}
	wantSettled(t, g, "- s1 | - 2 / r1 s3 | - - / a - | - - / r2 - | - -", "1.0: r1 r3")
	g.Prods[2].Right = row[:1]
	wantSettled(t, g, "- s1 | - 2 / r1 - | - - / a - | - -", "1.0: r1 r2 r3")
	wantReport(t, g, "state 1 at $end: reduce s -> 'x', reduce s -> 'x', reduce s -> 'x'", "  s -> 'x' .", "  s -> 'x' .", "  s -> 'x' .")
}

// R3

// roomy is a grammar whose lists all have spare room, with marks in it.
func roomy(g api.Grammar) api.Grammar {
	g = gram.Copy(g)
	g.Terms = append(g.Terms, api.Term{Name: "spare"})[:len(g.Terms)]
	g.Nons = append(g.Nons, "spare")[:len(g.Nons)]
	g.Levels = append(g.Levels, 77)[:len(g.Levels)]
	for i, p := range g.Prods {
		g.Prods[i].Right = append(p.Right, 77)[:len(p.Right)]
	}
	g.Prods = append(g.Prods, api.Prod{Left: 77})[:len(g.Prods)]
	return g
}

func isUntouched(g, want api.Grammar) bool {
	for _, p := range g.Prods {
		if p.Right[:len(p.Right)+1][len(p.Right)] != 77 {
			return false
		}
	}
	return gram.Same(g, want) && g.Terms[:len(g.Terms)+1][len(g.Terms)].Name == "spare" && g.Nons[:len(g.Nons)+1][len(g.Nons)] == "spare" &&
		g.Levels[:len(g.Levels)+1][len(g.Levels)] == 77 && g.Prods[:len(g.Prods)+1][len(g.Prods)].Left == 77
}

// Whatever one list of an answer is overwritten with, all other ones, and those of a later answer, are as they were.
func TestSettledIsNewMemory(t *testing.T) {
	want := read(t, "%left '+'; %right '*'; s : s '+' s | s '*' s | a s b | a ; a : b b | 'x' ; b : | a '-' | s ;")
	g := roomy(want)
	asTold := func(s api.Settled) string { return toldDense(s.Dense) + ", " + toldCells(s.Conflicts) }
	first, _ := resolve.Settle(g)
	if len(first.Conflicts) < 10 {
		t.Fatalf("%d cells are open", len(first.Conflicts))
	}
	at := func(s api.Settled, i int) (actions []api.Action, gotos []int) {
		if i < len(s.Conflicts) {
			return s.Conflicts[i].Actions, nil
		}
		i -= len(s.Conflicts)
		return s.Dense.Actions[i], s.Dense.Gotos[i]
	}
	for i := range len(first.Conflicts) + len(first.Dense.Actions) {
		spoiled, _ := resolve.Settle(g)
		actions, gotos := at(spoiled, i)
		keptActions, keptGotos := slices.Clone(actions), slices.Clone(gotos)
		overwrite(actions, reduce(55))
		overwrite(gotos, 55)
		copy(actions, keptActions)
		copy(gotos, keptGotos)
		if asTold(spoiled) != asTold(first) {
			t.Errorf("list %d shares memory: %s, then %s", i, asTold(first), asTold(spoiled))
		}
		overwrite(actions, reduce(55))
		overwrite(gotos, 55)
		overwrite(spoiled.Conflicts, api.Cell{State: 55})
		overwrite(spoiled.Dense.Actions, nil)
		overwrite(spoiled.Dense.Gotos, nil)
		if again, _ := resolve.Settle(g); asTold(again) != asTold(first) {
			t.Errorf("Settle is %s, then %s", asTold(first), asTold(again))
		}
	}
	resolve.Report(g)
	resolve.Side(g, 1, 1)
	resolve.Cell(g, api.Cell{Term: 1, Actions: []api.Action{shift(1), reduce(1)}})
	if !isUntouched(g, want) {
		t.Errorf("the grammar became %v, it was %v", g, want)
	}
}
