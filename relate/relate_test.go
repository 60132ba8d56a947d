package relate_test

import (
	"math"
	"slices"
	"strconv"
	"strings"
	"testing"

	"presage/api"
	"presage/gram"
	"presage/relate"
	"presage/spec"
)

// read is the grammar of a text.
func read(t *testing.T, text string) api.Grammar {
	t.Helper()
	g, mishap := spec.Read(text)
	if mishap.Code != api.OK {
		t.Fatalf("Read(%q) answers %v", text, mishap)
	}
	return g
}

// readClosed is the closed grammar of a text: that with the added one and the added production, and all else, be it of use or not.
func readClosed(t *testing.T, text string) api.Grammar {
	t.Helper()
	g := read(t, text)
	added := len(g.Terms)
	moved := func(sym int) int {
		if sym >= added {
			return sym + 1
		}
		return sym
	}
	c := api.Grammar{Terms: g.Terms, Levels: g.Levels, Start: moved(g.Start)}
	c.Nons = append([]string{""}, g.Nons...)
	c.Prods = []api.Prod{{Left: added, Right: []int{c.Start}}}
	for _, p := range g.Prods {
		var right []int
		for _, sym := range p.Right {
			right = append(right, moved(sym))
		}
		c.Prods = append(c.Prods, api.Prod{Left: moved(p.Left), Right: right, Level: p.Level})
	}
	return c
}

// told are numbers as a text, with blanks between them.
func told(numbers []int) string {
	var words []string
	for _, n := range numbers {
		words = append(words, strconv.Itoa(n))
	}
	return strings.Join(words, " ")
}

// toldLists are lists of numbers as a text, a / between two of them.
func toldLists(lists [][]int) string {
	var words []string
	for _, list := range lists {
		words = append(words, told(list))
	}
	return strings.Join(words, "/")
}

// toldBack is that as a text: State.Prod: and the transitions.
func toldBack(state, prod int, transitions ...int) string {
	return strconv.Itoa(state) + "." + strconv.Itoa(prod) + ": " + told(transitions)
}

// toldBacks are these as a text, a / between two of them.
func toldBacks(backs []api.Back) string {
	var words []string
	for _, back := range backs {
		words = append(words, toldBack(back.State, back.Prod, back.Trans...))
	}
	return strings.Join(words, "/")
}

// upTo are the numbers from one to another, that one too.
func upTo(from, to int) []int {
	var numbers []int
	for n := from; n <= to; n++ {
		numbers = append(numbers, n)
	}
	return numbers
}

func wantReads(t *testing.T, g api.Grammar, want string) {
	t.Helper()
	if got, err := relate.Reads(g); err != api.OK || toldLists(got) != want {
		t.Errorf("Reads(%v) is %s, %d; want %s", g, toldLists(got), err, want)
	}
}

func wantIncludes(t *testing.T, g api.Grammar, want string) {
	t.Helper()
	if got, err := relate.Includes(g); err != api.OK || toldLists(got) != want {
		t.Errorf("Includes(%v) is %s, %d; want %s", g, toldLists(got), err, want)
	}
}

func wantLookback(t *testing.T, g api.Grammar, want string) {
	t.Helper()
	if got, err := relate.Lookback(g); err != api.OK || toldBacks(got) != want {
		t.Errorf("Lookback(%v) is %s, %d; want %s", g, toldBacks(got), err, want)
	}
}

// wantError wants that all calls answer that error alone.
func wantError(t *testing.T, what string, g api.Grammar, want api.Errno) {
	t.Helper()
	if got, err := relate.Reads(g); err != want || len(got) != 0 {
		t.Errorf("Reads of %s is %v, %d; want %d alone", what, got, err, want)
	}
	if got, err := relate.Includes(g); err != want || len(got) != 0 {
		t.Errorf("Includes of %s is %v, %d; want %d alone", what, got, err, want)
	}
	if got, err := relate.Lookback(g); err != want || len(got) != 0 {
		t.Errorf("Lookback of %s is %v, %d; want %d alone", what, got, err, want)
	}
}

// around is the chapter's: x 1, y 2, the added one 3, s 4, a 5, b 6; the transitions 0 {0 4}, 1 {0 5}, 2 {3 4}, 3 {3 5}, 4 {4 6}.
const around = "s : a s b | 'x' ; a : ; b : | 'y' ;"

// P11.1

func TestReadsOfTheExample(t *testing.T) {
	wantReads(t, readClosed(t, around), "/3/4/3/")
}

func TestReads(t *testing.T) {
	for _, c := range []struct{ text, want string }{
		// Behind the only transition there is none.
		{"a : ;", ""},
		{"a : 'x' ;", ""},
		{"a : a ;", ""},
		{"a : a | ;", ""},
		{"s : 'x' s | ;", "/"},
		// States 1 to 3 are behind one a, two, and more.
		{"a : a a a | ;", "1/2/3/3"},
		// The same, but no a vanishes.
		{"a : a a a | 'x' ;", "///"},
		// {0 s}, {0 a}, {2 b}, {4 c}: each reads the next one alone, though that vanishes too.
		{"s : a b c ; a : ; b : 'x' | ; c : ;", "/2/3/"},
		{"s : a b c ; a : ; b : 'x' ; c : ;", "//3/"},
		{"s : a b c ; a : ; b : 'x' | ; c : 'y' ;", "/2//"},
		// {0 a} reads, though a itself never vanishes.
		{"s : a b ; a : 'x' ; b : ;", "/2/"},
		// {0 s}, {0 a}, {3 b}, {3 c}, {3 d}: several ones at once, and d, which stays, not.
		{"s : a b | a c | a d ; a : 'x' ; b : c | ; c : ; d : 'y' ;", "/2 3///"},
		// {0 s}, {0 a}, {3 s}, {3 a}: behind a, from 0 and from 3, is state 3, which has a transition of a.
		{"s : a s 'x' | 'y' ; a : ;", "/3//3"},
		// {0 s}, {1 b}, {1 c}, {1 d}, {4 c}, {4 d}: c vanishes since d does.
		{"s : 'x' b ; b : c c ; c : d ; d : ;", "//4 5///"},
		// t derives no row of terminals, and never vanishes; u, reached from nowhere, has no transition, though it vanishes.
		{"s : 'x' t | 'y' ; t : t 'z' ; u : s u | ;", "/"},
		// t derives no row of terminals; v, that stands behind it, vanishes all the same.
		{"s : t v | 'y' ; t : t 'z' ; v : ;", "/2/"},
	} {
		wantReads(t, readClosed(t, c.text), c.want)
	}
}

// P11.2

func TestIncludesOfTheExample(t *testing.T) {
	wantIncludes(t, readClosed(t, around), "//0 2//0 2")
}

func TestIncludes(t *testing.T) {
	for _, c := range []struct{ text, want string }{
		// The added production makes nothing include anything.
		{"a : ;", ""},
		{"a : 'x' ;", ""},
		// u and v are empty: one includes itself.
		{"a : a ;", "0"},
		{"a : a | ;", "0"},
		// By several productions, yet once.
		{"a : a | a | a b | a b b ; b : ;", "0/0/0"},
		// {0 s}, {1 s}: state 1 is behind x, and behind x x.
		{"s : 'x' s | ;", "/0 1"},
		// Behind s stands what stays.
		{"s : s 'x' | ;", ""},
		{"s : 'x' s 'x' | ;", "/"},
		// From state 2 the second and the third a are in state 3, and so are all but the first from state 3.
		{"a : a a a | ;", "0/0 1/0 1 2/1 2 3"},
		// Nothing vanishes: the last a alone.
		{"a : a a a | 'x' ;", "//0/1 2 3"},
		// {0 s}, {0 a}, {2 b}, {4 c}
		{"s : a b c ; a : ; b : 'x' | ; c : ;", "/0/0/0"},
		{"s : a b c ; a : ; b : 'x' ; c : ;", "//0/0"},
		{"s : a b c ; a : ; b : ; c : 'x' ;", "///0"},
		{"s : a b c 'x' ; a : ; b : ; c : ;", "///"},
		// A terminal in the midst: what stands ahead of it includes nothing.
		{"s : a 'x' b ; a : ; b : ;", "//0"},
		// {0 s}, {0 t}, {2 t}: t derives no row of terminals.
		{"s : t | 'x' ; t : 'y' t ;", "/0/1 2"},
		// u is reached from nowhere: it has no transition that might be included.
		{"s : 'x' a ; a : ; u : s | a ;", "/0"},
		// {0 e}, {3 e}: the one behind + includes both, the one ahead of it none.
		{"%left '+'; e : e '+' e %none | n ;", "/0 1"},
		// {0 a}, {0 b}, {1 a}, {1 b}, with b for the start symbol: behind x, from 0 and from 1, is state 1.
		{"%start b; a : 'x' b ; b : a | 'y' ;", "1//3/0 2"},
	} {
		wantIncludes(t, readClosed(t, c.text), c.want)
	}
}

// P11.3

func TestLookbackOfTheExample(t *testing.T) {
	wantLookback(t, readClosed(t, around), "0.3: 1/1.2: 0 2/3.3: 3/4.4: 4/5.5: 4/6.1: 0 2")
}

func TestLookbacks(t *testing.T) {
	for _, c := range []struct{ text, want string }{
		// The added production, completed in state 1, is not told.
		{"a : ;", "0.1: 0"},
		{"a : 'x' ;", "1.1: 0"},
		{"a : a ;", "1.1: 0"},
		{"a : a | ;", "0.2: 0/1.1: 0"},
		// Productions alike are told one by one.
		{"a : 'x' | 'x' | | ;", "0.3: 0/0.4: 0/1.1: 0/1.2: 0"},
		// The last state has a production completed in its kernel, and one in its closure alone.
		{"a : a a a | ;", "0.2: 0/1.2: 1/2.2: 2/3.1: 0 1 2 3/3.2: 3"},
		{"a : a a a | 'x' ;", "1.2: 0 1 2 3/4.1: 0 1 2 3"},
		{"s : 'x' s | ;", "0.2: 0/1.2: 1/3.1: 0 1"},
		{"s : a b c ; a : ; b : 'x' | ; c : ;", "0.2: 1/2.4: 2/3.3: 2/4.5: 3/5.1: 0"},
		{"s : a s 'x' | 'y' ; a : ;", "0.3: 1/1.2: 0 2/3.3: 3/5.1: 0 2"},
		// In state 2 a : w and b : w are completed, each from state 0 and from state 1.
		{"s : a 'x' | 'y' a 'z' | b 'z' | 'y' b 'x' ; a : 'w' ; b : 'w' ;", "2.5: 1 3/2.6: 2 4/8.1: 0/9.3: 0/10.2: 0/11.4: 0"},
		// t derives no row of terminals, but is completed; u is reached from nowhere.
		{"s : t | 'x' ; t : 'y' t ;", "1.2: 0/4.1: 0/5.3: 1 2"},
		{"s : 'x' ; u : 'x' | 'y' u | ;", "1.1: 0"},
		// Neither s nor t derives a row of terminals.
		{"s : s 'x' 'y' t ; t : 'z' t ;", "5.1: 0/6.2: 1 2"},
		// The start symbol may be any.
		{"%start b; a : 'x' b ; b : a | 'y' ;", "2.3: 1 3/3.2: 1 3/5.1: 0 2"},
	} {
		wantLookback(t, readClosed(t, c.text), c.want)
	}
}

// The nonterminals of a closed grammar may stand in any order, and so may its productions.
func TestAClosedGrammarOfItsOwnOrder(t *testing.T) {
	g := api.Grammar{
		Terms: []api.Term{{}, {Name: "x"}, {Name: "y"}},
		Nons:  []string{"", "b", "a"},
		Start: 5,
		Prods: []api.Prod{{Left: 3, Right: []int{5}}, {Left: 5, Right: []int{4, 1}}, {Left: 4}, {Left: 5, Right: []int{4, 5}}, {Left: 4, Right: []int{2}}},
	}
	// a : b x | b a and b : | y. State 1 is behind y, 2 behind b, 3 behind a, 4 behind b x, 5 behind b a; the transitions are {0 b}, {0 a}, {2 b}, {2 a}.
	want := func() {
		t.Helper()
		wantReads(t, g, "2//2/")
		wantIncludes(t, g, "///1 3")
		wantLookback(t, g, "0.2: 0/1.4: 0 2/2.2: 2/4.1: 1 3/5.3: 1 3")
	}
	want()
	// A terminal may have a nonterminal's name for its text.
	g.Terms[1].Name = "a"
	want()
}

// The bounds

// rising is a closed grammar of s : x s | x .. x, with that many x, three at least, in production 2: as many states behind x, state 0, and the states 2 and 4 behind s. Behind the last x another one leads to the same state.
func rising(length int) api.Grammar {
	return api.Grammar{
		Terms: []api.Term{{}, {Name: "x"}},
		Nons:  []string{"", "s"},
		Start: 3,
		Prods: []api.Prod{{Left: 2, Right: []int{3}}, {Left: 3, Right: []int{1, 3}}, {Left: 3, Right: slices.Repeat([]int{1}, length)}},
	}
}

// The transition of number k is behind k x.
func TestTheMostStates(t *testing.T) {
	const length = api.MaxStates - 3
	g := rising(length)
	wantReads(t, g, strings.Repeat("/", length))
	includes := ""
	for number := range length - 1 {
		includes += "/" + strconv.Itoa(number)
	}
	wantIncludes(t, g, includes+"/"+told([]int{length - 1, length}))
	all := upTo(0, length)
	wantLookback(t, g, toldBack(4, 1, all...)+"/"+toldBack(api.MaxStates-1, 2, all...))
	wantError(t, "a state too many", rising(length+1), api.ErrTooBig)
	wantError(t, "far too many states", rising(100000), api.ErrTooBig)
}

// vanishing is a closed grammar of s : a .. a, with that many a, and a : nothing: state 1 is behind s, state k + 1 behind k a.
func vanishing(length int) api.Grammar {
	return api.Grammar{
		Terms: []api.Term{{}},
		Nons:  []string{"", "s", "a"},
		Start: 2,
		Prods: []api.Prod{{Left: 1, Right: []int{2}}, {Left: 2, Right: slices.Repeat([]int{3}, length)}, {Left: 3}},
	}
}

// The transition of number 1 is that of state 0 by a, that of k that of state k.
func TestTheLongestRowThatVanishes(t *testing.T) {
	const length = api.MaxStates - 2
	g := vanishing(length)
	reads, includes, backs := "/2", "/0", "0.2: 1"
	for k := 2; k <= length; k++ {
		reads += "/"
		if k < length {
			reads += strconv.Itoa(k + 1)
		}
		includes += "/0"
		backs += "/" + toldBack(k, 2, k)
	}
	wantReads(t, g, reads)
	wantIncludes(t, g, includes)
	wantLookback(t, g, backs+"/"+toldBack(api.MaxStates-1, 1, 0))
	wantError(t, "a state too many", vanishing(length+1), api.ErrTooBig)
}

// s : n1 n2 .., each of which vanishes: the transition of number 1 is that of state 0, that of k that of state k.
func TestTheMostNonterminals(t *testing.T) {
	const nons = api.MaxSyms - 1
	g := api.Grammar{Terms: []api.Term{{}}, Nons: []string{"", "s"}, Start: 2, Prods: []api.Prod{{Left: 1, Right: []int{2}}, {Left: 2}}}
	reads, includes, backs := "", "", "0.2: 1"
	for i := 1; i <= nons; i++ {
		g.Nons = append(g.Nons, "n"+strconv.Itoa(i))
		g.Prods = append(g.Prods, api.Prod{Left: 2 + i})
		g.Prods[1].Right = append(g.Prods[1].Right, 2+i)
		reads += "/"
		if i < nons {
			reads += strconv.Itoa(i + 1)
		}
		includes += "/0"
		if i > 1 {
			backs += "/" + toldBack(i, 1+i, i)
		}
	}
	wantReads(t, g, reads)
	wantIncludes(t, g, includes)
	wantLookback(t, g, backs+"/"+toldBack(nons+1, 1, 0))
	g.Nons = append(g.Nons, "more")
	g.Prods = append(g.Prods, api.Prod{Left: 3 + nons})
	wantError(t, "a symbol too many", g, api.ErrArg)
}

// All nonterminals stand in state 0, each a step of the next one, down to the one that vanishes.
func TestTheMostTransitionsOfAState(t *testing.T) {
	const nons = api.MaxSyms
	g := api.Grammar{Terms: []api.Term{{}}, Nons: []string{""}, Start: 1 + nons, Prods: []api.Prod{{Left: 1, Right: []int{1 + nons}}}}
	includes, backs := "", "0.1: 0"
	for i := range nons {
		g.Nons = append(g.Nons, "n"+strconv.Itoa(i))
		g.Prods = append(g.Prods, api.Prod{Left: 2 + i, Right: []int{1 + i}})
		if i > 0 {
			includes += strconv.Itoa(i) + "/"
			backs += "/" + toldBack(i, 1+i, i)
		}
	}
	g.Prods[1].Right = nil
	wantReads(t, g, strings.Repeat("/", nons-1))
	wantIncludes(t, g, includes)
	wantLookback(t, g, backs)
}

// a : a, as often as may be: a includes itself once, each production looks back by itself.
func TestTheMostProductions(t *testing.T) {
	g := api.Grammar{Terms: []api.Term{{}}, Nons: []string{"", "a"}, Start: 2, Prods: []api.Prod{{Left: 1, Right: []int{2}}}}
	var backs []string
	for prod := 1; prod <= api.MaxProds; prod++ {
		g.Prods = append(g.Prods, api.Prod{Left: 2, Right: []int{2}})
		backs = append(backs, toldBack(1, prod, 0))
	}
	wantReads(t, g, "")
	wantIncludes(t, g, "0")
	wantLookback(t, g, strings.Join(backs, "/"))
	g.Prods = append(g.Prods, api.Prod{Left: 2, Right: []int{2}})
	wantError(t, "a production too many", g, api.ErrArg)
}

// s is any one of all terminals that may be: nothing vanishes, and each production looks back to {0 s}.
func TestTheMostTerminals(t *testing.T) {
	const terms = api.MaxSyms - 1
	g := api.Grammar{Terms: []api.Term{{}}, Nons: []string{"", "s"}, Start: terms + 2, Prods: []api.Prod{{Left: terms + 1, Right: []int{terms + 2}}}}
	var backs []string
	for i := 1; i <= terms; i++ {
		g.Terms = append(g.Terms, api.Term{Name: "t" + strconv.Itoa(i)})
		g.Prods = append(g.Prods, api.Prod{Left: terms + 2, Right: []int{i}})
		backs = append(backs, toldBack(i, i, 0))
	}
	wantReads(t, g, "")
	wantIncludes(t, g, "")
	wantLookback(t, g, strings.Join(backs, "/"))
	g.Terms = append(g.Terms, api.Term{Name: "more"})
	wantError(t, "a symbol too many", g, api.ErrArg)
}

// Many transitions, each of which includes many: a : a .. a, many times over, or one of many that vanish.
func TestManyTransitionsAtOnce(t *testing.T) {
	const length, nons = 190, api.MaxSyms - 1
	g := api.Grammar{Terms: []api.Term{{}}, Nons: []string{"", "a"}, Start: 2, Prods: []api.Prod{{Left: 1, Right: []int{2}}, {Left: 2, Right: []int{3}}}}
	for i := range nons {
		g.Nons = append(g.Nons, "n"+strconv.Itoa(i))
		g.Prods = append(g.Prods, api.Prod{Left: 3 + i, Right: []int{4 + i}})
	}
	g.Prods[1+nons].Right = nil
	for len(g.Prods) <= api.MaxProds {
		g.Prods = append(g.Prods, api.Prod{Left: 2, Right: slices.Repeat([]int{2}, length)})
	}
	includes, err := relate.Includes(g)
	// State 0 and as many as there are a in a row have a transition of each nonterminal.
	if err != api.OK || len(includes) != (1+length)*(1+nons) {
		t.Fatalf("there are %d transitions, %d", len(includes), err)
	}
	// Those of the first state are a and n0 to n62: a includes itself alone, each other one the one ahead of it.
	if told(includes[0]) != "0" || told(includes[1]) != "0" || told(includes[nons]) != strconv.Itoa(nons-1) {
		t.Errorf("state 0 includes %v", includes[:1+nons])
	}
	// The last a of a row from state 0 on stands in all rows that begin between there and itself.
	var firsts []int
	for k := range length {
		firsts = append(firsts, k*(1+nons))
	}
	if got := includes[(length-1)*(1+nons)]; told(got) != told(firsts) {
		t.Errorf("the last a of a row includes %v, not %v", got, firsts)
	}
	reads, err := relate.Reads(g)
	if err != api.OK || told(reads[0]) != told(upTo(1+nons, 1+2*nons)) || len(reads[1]) != 0 {
		t.Errorf("the first a reads %v, the first n %v, %d", reads[0], reads[1], err)
	}
	backs, err := relate.Lookback(g)
	if err != api.OK || len(backs) != (1+length)+nons+(api.MaxProds-1-nons) {
		t.Errorf("%d completed productions look back, %d", len(backs), err)
	}
}

// R1: rows may be far longer than there are states, where nothing leads to them, and may share memory.

func TestLongRowsThatNothingReaches(t *testing.T) {
	g := readClosed(t, around+" u : ;")
	long := slices.Repeat([]int{4, 5, 6, 7}, 1<<16)
	for i := range g.Prods[6:] {
		g.Prods[6+i].Right = long
	}
	for len(g.Prods) <= api.MaxProds {
		g.Prods = append(g.Prods, api.Prod{Left: 7, Right: long})
	}
	wantReads(t, g, "/3/4/3/")
	wantIncludes(t, g, "//0 2//0 2")
	wantLookback(t, g, "0.3: 1/1.2: 0 2/3.3: 3/4.4: 4/5.5: 4/6.1: 0 2")
}

func TestRowsThatShareMemory(t *testing.T) {
	g := vanishing(1)
	long := slices.Repeat([]int{3}, 1<<16)
	for len(g.Prods) <= api.MaxProds {
		g.Prods = append(g.Prods, api.Prod{Left: 2, Right: long})
	}
	wantError(t, "rows that are far too long", g, api.ErrTooBig)
	for i := range g.Prods[3:] {
		g.Prods[3+i].Right = long[:2]
	}
	// {0 s}, {0 a}, {2 a}: state 2 is behind a, in the midst of all rows but the first, state 3 behind a a.
	wantReads(t, g, "/2/")
	wantIncludes(t, g, "/0/0")
	var backs []string
	for prod := 3; prod <= api.MaxProds; prod++ {
		backs = append(backs, toldBack(3, prod, 0))
	}
	wantLookback(t, g, "0.2: 1/2.1: 0/2.2: 2/"+strings.Join(backs, "/"))
}

// R6

func TestNoGrammar(t *testing.T) {
	wantError(t, "nothing", api.Grammar{}, api.ErrArg)
	wantError(t, "an end marker alone", api.Grammar{Terms: []api.Term{{}}}, api.ErrArg)
	for what, spoil := range map[string]func(g *api.Grammar){
		"no end marker":               func(g *api.Grammar) { g.Terms[0].Name = "w" },
		"two texts alike":             func(g *api.Grammar) { g.Terms[2].Name = g.Terms[1].Name },
		"a terminal's level too high": func(g *api.Grammar) { g.Terms[1].Level = 1 },
		"a name that is none":         func(g *api.Grammar) { g.Nons[1] = "9" },
		"two names alike":             func(g *api.Grammar) { g.Nons[2] = g.Nons[1] },
		"a level of nobody":           func(g *api.Grammar) { g.Levels = []int{api.Left} },
		"no productions":              func(g *api.Grammar) { g.Prods = nil },
		"the added production alone":  func(g *api.Grammar) { g.Prods = g.Prods[:1] },
		"no added production":         func(g *api.Grammar) { g.Prods = g.Prods[1:] },
		"no added one":                func(g *api.Grammar) { g.Nons[0] = "n" },
		"an added one of another row": func(g *api.Grammar) { g.Prods[0].Right = []int{5} },
		"an added one of the empty":   func(g *api.Grammar) { g.Prods[0].Right = nil },
		"an added one that starts":    func(g *api.Grammar) { g.Start = 3 },
		"an added one in a right":     func(g *api.Grammar) { g.Prods[1].Right[0] = 3 },
		"an added one twice a left":   func(g *api.Grammar) { g.Prods[2].Left = 3 },
		"a name too many":             func(g *api.Grammar) { g.Nons = append(g.Nons, "n") },
		"a terminal for a left":       func(g *api.Grammar) { g.Prods[1].Left = 1 },
		"the end marker in a right":   func(g *api.Grammar) { g.Prods[1].Right[0] = 0 },
		"a symbol below all":          func(g *api.Grammar) { g.Prods[1].Right[0] = -1 },
		"a symbol behind all":         func(g *api.Grammar) { g.Prods[1].Right[0] = len(g.Terms) + len(g.Nons) },
		"a symbol far above":          func(g *api.Grammar) { g.Prods[1].Right[0] = math.MaxInt },
		"a start that is a terminal":  func(g *api.Grammar) { g.Start = 1 },
		"a start that is nothing":     func(g *api.Grammar) { g.Start = math.MinInt },
	} {
		g := readClosed(t, "A : B A | 'x' ; B : A 'y' | ;")
		spoil(&g)
		wantError(t, "a closed grammar with "+what, g, api.ErrArg)
	}
	// Of two errors it is the grammar's.
	g := rising(1000)
	g.Prods[1].Right[0] = 0
	wantError(t, "too many states of what is no grammar", g, api.ErrArg)
}

// What is plain is never closed.
func TestPlainGrammars(t *testing.T) {
	for _, text := range []string{"A : ;", "A : A ;", "A : B ; B : A | 'x' ;", around} {
		wantError(t, "the plain grammar "+text, read(t, text), api.ErrArg)
	}
}

// R3

// roomy is a grammar whose lists all have spare room, with marks in it.
func roomy(g api.Grammar) api.Grammar {
	g = gram.Copy(g)
	g.Terms = append(g.Terms, api.Term{Name: "spare"})[:len(g.Terms)]
	g.Nons = append(g.Nons, "spare")[:len(g.Nons)]
	g.Levels = append(g.Levels, 77)[:len(g.Levels)]
	for i, p := range g.Prods {
		g.Prods[i].Right = append(p.Right, 77)[:len(p.Right)]
	}
	g.Prods = append(g.Prods, api.Prod{Left: 77})[:len(g.Prods)]
	return g
}

func isUntouched(g, want api.Grammar) bool {
	for i, p := range g.Prods {
		if p.Right[:len(want.Prods[i].Right)+1][len(want.Prods[i].Right)] != 77 {
			return false
		}
	}
	return gram.Same(g, want) && g.Terms[:len(g.Terms)+1][len(g.Terms)].Name == "spare" && g.Nons[:len(g.Nons)+1][len(g.Nons)] == "spare" &&
		g.Levels[:len(g.Levels)+1][len(g.Levels)] == 77 && g.Prods[:len(g.Prods)+1][len(g.Prods)].Left == 77
}

// nested has all relations: lists of several numbers, some alike.
const nested = "%left '+'; %right '*'; s : s '+' s | a s b | a ; a : b b | 'x' ; b : | a '*' | s ;"

func TestWhatIsHandedInIsNotChanged(t *testing.T) {
	want := readClosed(t, nested)
	g := roomy(want)
	relate.Reads(g)
	relate.Includes(g)
	relate.Lookback(g)
	if !isUntouched(g, want) {
		t.Errorf("the grammar became %v, it was %v", g, want)
	}
}

// overwrite writes over a list, spare room too.
func overwrite[T any](list []T, by T) {
	for i := range cap(list) {
		list[:cap(list)][i] = by
	}
}

// wantOwnMemory wants that no list shares memory with another one of the same answer, spare room included.
func wantOwnMemory(t *testing.T, what string, ask func() [][]int) {
	t.Helper()
	want := ask()
	filled := 0
	for at := range want {
		if len(want[at]) > 0 {
			filled++
		}
		spoiled := ask()
		overwrite(spoiled[at], 5555)
		for i, list := range spoiled {
			if i != at && !slices.Equal(list, want[i]) {
				t.Errorf("%s: the lists %d and %d are one", what, at, i)
			}
			overwrite(list, 5555)
		}
		if again := ask(); toldLists(again) != toldLists(want) {
			t.Errorf("%s is %s, then %s", what, toldLists(want), toldLists(again))
		}
	}
	if filled < 4 {
		t.Errorf("%s has but %d lists with numbers", what, filled)
	}
}

func TestAnswersAreNewMemory(t *testing.T) {
	want := readClosed(t, nested)
	g := roomy(want)
	wantOwnMemory(t, "Reads", func() [][]int {
		lists, _ := relate.Reads(g)
		return lists
	})
	wantOwnMemory(t, "Includes", func() [][]int {
		lists, _ := relate.Includes(g)
		return lists
	})
	wantOwnMemory(t, "Lookback", func() [][]int {
		backs, _ := relate.Lookback(g)
		var lists [][]int
		for _, back := range backs {
			lists = append(lists, back.Trans)
		}
		return lists
	})
	backs, _ := relate.Lookback(g)
	toldBefore := toldBacks(backs)
	overwrite(backs, api.Back{State: 55, Prod: 55})
	wantLookback(t, g, toldBefore)
	if !isUntouched(g, want) {
		t.Errorf("the grammar became %v, it was %v", g, want)
	}
}
