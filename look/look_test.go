package look_test

import (
	"math"
	"slices"
	"strconv"
	"strings"
	"testing"

	"presage/api"
	"presage/gram"
	"presage/look"
	"presage/spec"
)

// read is the grammar of a text.
func read(t *testing.T, text string) api.Grammar {
	t.Helper()
	g, mishap := spec.Read(text)
	if mishap.Code != api.OK {
		t.Fatalf("Read(%q) answers %v", text, mishap)
	}
	return g
}

// readClosed is the closed grammar of a text: that with the added one and the added production, and all else, be it of use or not.
func readClosed(t *testing.T, text string) api.Grammar {
	t.Helper()
	g := read(t, text)
	added := len(g.Terms)
	moved := func(sym int) int {
		if sym >= added {
			return sym + 1
		}
		return sym
	}
	c := api.Grammar{Terms: g.Terms, Levels: g.Levels, Start: moved(g.Start)}
	c.Nons = append([]string{""}, g.Nons...)
	c.Prods = []api.Prod{{Left: added, Right: []int{c.Start}}}
	for _, p := range g.Prods {
		var right []int
		for _, sym := range p.Right {
			right = append(right, moved(sym))
		}
		c.Prods = append(c.Prods, api.Prod{Left: moved(p.Left), Right: right, Level: p.Level})
	}
	return c
}

// told are numbers as a text, with blanks between them.
func told(numbers []int) string {
	var words []string
	for _, n := range numbers {
		words = append(words, strconv.Itoa(n))
	}
	return strings.Join(words, " ")
}

// toldLists are lists of numbers as a text, a / between two of them.
func toldLists(lists [][]int) string {
	var words []string
	for _, list := range lists {
		words = append(words, told(list))
	}
	return strings.Join(words, "/")
}

// toldLook is that as a text: State.Prod: and the terminals.
func toldLook(state, prod int, terms ...int) string {
	return strconv.Itoa(state) + "." + strconv.Itoa(prod) + ": " + told(terms)
}

// toldLooks are these as a text, a / between two of them.
func toldLooks(looks []api.Look) string {
	var words []string
	for _, one := range looks {
		words = append(words, toldLook(one.State, one.Prod, one.Terms...))
	}
	return strings.Join(words, "/")
}

// upTo are the numbers from one to another, that one too.
func upTo(from, to int) []int {
	var numbers []int
	for n := from; n <= to; n++ {
		numbers = append(numbers, n)
	}
	return numbers
}

func wantReading(t *testing.T, g api.Grammar, want string) {
	t.Helper()
	if got, err := look.Reading(g); err != api.OK || toldLists(got) != want {
		t.Errorf("Reading(%v) is %s, %d; want %s", g, toldLists(got), err, want)
	}
}

func wantFollowing(t *testing.T, g api.Grammar, want string) {
	t.Helper()
	if got, err := look.Following(g); err != api.OK || toldLists(got) != want {
		t.Errorf("Following(%v) is %s, %d; want %s", g, toldLists(got), err, want)
	}
}

func wantSets(t *testing.T, g api.Grammar, want string) {
	t.Helper()
	if got, err := look.Sets(g); err != api.OK || toldLooks(got) != want {
		t.Errorf("Sets(%v) is %s, %d; want %s", g, toldLooks(got), err, want)
	}
}

// wantError wants that all calls answer that error alone.
func wantError(t *testing.T, what string, g api.Grammar, want api.Errno) {
	t.Helper()
	if got, err := look.Reading(g); err != want || len(got) != 0 {
		t.Errorf("Reading of %s is %v, %d; want %d alone", what, got, err, want)
	}
	if got, err := look.Following(g); err != want || len(got) != 0 {
		t.Errorf("Following of %s is %v, %d; want %d alone", what, got, err, want)
	}
	if got, err := look.Sets(g); err != want || len(got) != 0 {
		t.Errorf("Sets of %s is %v, %d; want %d alone", what, got, err, want)
	}
}

// around is the chapter's: x 1, y 2, the added one 3, s 4, a 5, b 6; the transitions 0 {0 4}, 1 {0 5}, 2 {3 4}, 3 {3 5}, 4 {4 6}.
const around = "s : a s b | 'x' ; a : ; b : | 'y' ;"

// apart has the transitions {0 s}, {0 l}, {0 r}, and {1 l}, {1 r} behind *, {8 l}, {8 r} behind =: what may follow r hangs on where it stands.
const apart = "s : l '=' r | r ; l : '*' r | n ; r : l ;"

// P13.1

func TestReadingOfTheExample(t *testing.T) {
	wantReading(t, readClosed(t, around), "0/1/2/1/")
}

func TestReading(t *testing.T) {
	for _, c := range []struct{ text, want string }{
		// The end marker stands behind the start symbol in state 0, in no other one.
		{"a : ;", "0"},
		{"a : a ;", "0"},
		{"s : 'x' s | ;", "0/"},
		{"s : 'x' s 'x' | ;", "0/1"},
		{"s : s 'x' | ;", "0 1"},
		{apart, "0/1/////"},
		// {0 s}, {0 a}, {2 b}, {4 c}: behind a stands b, or nothing, and then c; what stays ends it.
		{"s : a b c ; a : ; b : 'x' | ; c : 'y' ;", "0/1 2/2/"},
		{"s : a b c ; a : ; b : 'x' ; c : 'y' ;", "0/1/2/"},
		// z 1, x 2, y 3: two that vanish, one behind the other.
		{"s : a b c 'z' ; a : 'x' ; b : 'x' | ; c : 'y' | ;", "0/1 2 3/1 3/1"},
		// The same, but c stays.
		{"s : a b c 'z' ; a : 'x' ; b : 'x' | ; c : 'y' ;", "0/2 3/3/1"},
		// {0 s}, {0 a}, {3 b}, {3 c}: behind a two that vanish, side by side; x 1, y 2, z 3.
		{"s : a b 'x' | a c 'y' ; a : 'z' ; b : ; c : ;", "0/1 2/1/2"},
		// What the start symbol reads in state 0 it reads beside the end marker.
		{"s : s a 'x' | 'y' ; a : ;", "0 1/1"},
		// {0 a}, {1 a}, {2 a}, {3 a}: the last one reads itself, and no terminal.
		{"a : a a a | ;", "0///"},
		// {0 s}, {1 a}, {3 a}, {4 a}: state 4, behind a a, leads by a to itself.
		{"s : 'x' a ; a : a a 'y' | ;", "0/2/2/2"},
		// t derives no row of terminals, but begins with one.
		{"s : a t | 'x' ; a : ; t : 'y' t ;", "0/2//"},
		// u is reached from nowhere.
		{"s : 'x' ; u : s 'y' u | ;", "0"},
	} {
		wantReading(t, readClosed(t, c.text), c.want)
	}
}

// P13.2

func TestFollowingOfTheExample(t *testing.T) {
	wantFollowing(t, readClosed(t, around), "0/1/0 2/1/0 2")
}

func TestFollowing(t *testing.T) {
	for _, c := range []struct{ text, want string }{
		{"a : ;", "0"},
		// One that includes itself has nothing of it.
		{"a : a ;", "0"},
		{"s : 'x' s | ;", "0/0"},
		{"s : 'x' s 'x' | ;", "0/1"},
		{"s : s 'x' | ;", "0 1"},
		{apart, "0/0 1/0/0 1/0 1/0/0"},
		// {0 s}, {0 a}, {2 b}, {4 c}: what reads also includes, if all behind it vanishes.
		{"s : a b c ; a : ; b : 'x' | ; c : 'y' | ;", "0/0 1 2/0 2/0"},
		{"s : a b c ; a : ; b : 'x' | ; c : 'y' ;", "0/1 2/2/0"},
		{"a : a a a | ;", "0/0/0/0"},
		// {0 a}, {2 a}, {3 a}, {4 a}: the second a of the outermost row is never the last one.
		{"a : a a a | 'x' ;", "0 1/1/0 1/0 1"},
		// {0 e}, {3 e}: + stands behind both, the end marker behind the second by the first.
		{"%left '+'; e : e '+' e | n ;", "0 1/0 1"},
		// {0 s}, {0 a}, {0 b}, {1 a}, {1 b}: what follows a behind y is not what follows it in state 0.
		{"s : a 'x' | 'y' a 'z' | b 'z' | 'y' b 'x' ; a : 'w' ; b : 'w' ;", "0/1/3/3/1"},
		// {0 s}, {1 a}, {1 b}, {1 c}: they include one another in a ring, and each has what stands behind any; w 1, x 2, y 3, z 4.
		{"s : 'w' a ; a : b | a 'x' ; b : c | b 'y' ; c : a | c 'z' ;", "0/0 2 3 4/0 2 3 4/0 2 3 4"},
		// t derives no row of terminals.
		{"s : t | 'x' ; t : 'y' t ;", "0/0/0"},
		// Nothing ever stands behind a: t never begins.
		{"s : 'x' a t ; a : ; t : t ;", "0//0"},
		// The start symbol may be any.
		{"%start b; a : 'x' b ; b : a 'y' | ;", "2/0/2/2"},
	} {
		wantFollowing(t, readClosed(t, c.text), c.want)
	}
}

// P13.3

func TestSetsOfTheExample(t *testing.T) {
	wantSets(t, readClosed(t, around), "0.3: 1/1.2: 0 2/3.3: 1/4.4: 0 2/5.5: 0 2/6.1: 0 2")
}

func TestSets(t *testing.T) {
	for _, c := range []struct{ text, want string }{
		// The added production, completed in state 1, is not told.
		{"a : ;", "0.1: 0"},
		{"a : 'x' ;", "1.1: 0"},
		{"a : a | ;", "0.2: 0/1.1: 0"},
		// Productions alike are told one by one.
		{"a : 'x' | 'x' | | ;", "0.3: 0/0.4: 0/1.1: 0/1.2: 0"},
		{"s : 'x' s 'x' | ;", "0.2: 0/1.2: 1/4.1: 0 1"},
		{apart, "2.4: 0 1/4.5: 0/5.2: 0/6.5: 0 1/7.3: 0 1/9.1: 0"},
		// In state 2 both are completed, from state 0 and from state 1: their terminals are merged.
		{"s : a 'x' | 'y' a 'z' | b 'z' | 'y' b 'x' ; a : 'w' ; b : 'w' ;", "2.5: 1 3/2.6: 1 3/8.1: 0/9.3: 0/10.2: 0/11.4: 0"},
		// What is completed in a state's closure alone looks back to that state's transition alone.
		{"a : a a a | 'x' ;", "1.2: 0 1/4.1: 0 1"},
		{"s : a b c ; a : ; b : 'x' | ; c : 'y' ;", "0.2: 1 2/2.4: 2/3.3: 2/5.5: 0/6.1: 0"},
		// A production without a lookahead is told too.
		{"s : 'x' a t ; a : ; t : t ;", "1.2: /4.1: 0/4.3: 0"},
		{"s : a b ; a : ; b : b ;", "0.2: /3.1: 0/3.3: 0"},
		// t derives no row of terminals; u is reached from nowhere.
		{"s : t | 'x' ; t : 'y' t ;", "1.2: 0/4.1: 0/5.3: 0"},
		{"s : 'x' ; u : 'x' | 'y' u | ;", "1.1: 0"},
		// Nothing derives a row of terminals: the x right behind a is found all the same.
		{"s : a s ; a : a 'x' ;", "3.2: 1/4.1: 0"},
	} {
		wantSets(t, readClosed(t, c.text), c.want)
	}
}

// The nonterminals of a closed grammar may stand in any order, and so may its productions.
func TestAClosedGrammarOfItsOwnOrder(t *testing.T) {
	g := api.Grammar{
		Terms: []api.Term{{}, {Name: "x"}, {Name: "y"}},
		Nons:  []string{"", "b", "a"},
		Start: 5,
		Prods: []api.Prod{{Left: 3, Right: []int{5}}, {Left: 5, Right: []int{4, 1}}, {Left: 4}, {Left: 5, Right: []int{4, 5}}, {Left: 4, Right: []int{2}}},
	}
	// a : b x | b a and b : | y. State 1 is behind y, 2 behind b, 3 behind a, 4 behind b x, 5 behind b a; the transitions are {0 b}, {0 a}, {2 b}, {2 a}.
	want := func() {
		t.Helper()
		wantReading(t, g, "1 2/0/1 2/")
		wantFollowing(t, g, "1 2/0/1 2/0")
		wantSets(t, g, "0.2: 1 2/1.4: 1 2/2.2: 1 2/4.1: 0/5.3: 0")
	}
	want()
	// A terminal may have a nonterminal's name for its text.
	g.Terms[1].Name = "a"
	want()
}

// The bounds

// rising is a closed grammar of s : x s | x .. x, with that many x, three at least, in production 2: as many states behind x, state 0, and the states 2 and 4 behind s. Behind the last x another one leads to the same state.
func rising(length int) api.Grammar {
	return api.Grammar{
		Terms: []api.Term{{}, {Name: "x"}},
		Nons:  []string{"", "s"},
		Start: 3,
		Prods: []api.Prod{{Left: 2, Right: []int{3}}, {Left: 3, Right: []int{1, 3}}, {Left: 3, Right: slices.Repeat([]int{1}, length)}},
	}
}

// The transition of number k is behind k x; each includes the one ahead of it, down to the one that the end marker follows.
func TestTheMostStates(t *testing.T) {
	const length = api.MaxStates - 3
	g := rising(length)
	wantReading(t, g, "0"+strings.Repeat("/", length))
	wantFollowing(t, g, "0"+strings.Repeat("/0", length))
	wantSets(t, g, toldLook(4, 1, 0)+"/"+toldLook(api.MaxStates-1, 2, 0))
	wantError(t, "a state too many", rising(length+1), api.ErrTooBig)
	wantError(t, "far too many states", rising(100000), api.ErrTooBig)
}

// vanishing is a closed grammar of s : a .. a, with that many a, and a : nothing: state 1 is behind s, state k + 1 behind k a.
func vanishing(length int) api.Grammar {
	return api.Grammar{
		Terms: []api.Term{{}},
		Nons:  []string{"", "s", "a"},
		Start: 2,
		Prods: []api.Prod{{Left: 1, Right: []int{2}}, {Left: 2, Right: slices.Repeat([]int{3}, length)}, {Left: 3}},
	}
}

// The transition of number 1 is that of state 0 by a, that of k that of state k: it reads that of k + 1.
func TestTheLongestRowThatVanishes(t *testing.T) {
	const length = api.MaxStates - 2
	g := vanishing(length)
	backs := "0.2: 0"
	for k := 2; k <= length; k++ {
		backs += "/" + toldLook(k, 2, 0)
	}
	wantReading(t, g, "0"+strings.Repeat("/", length))
	wantFollowing(t, g, "0"+strings.Repeat("/0", length))
	wantSets(t, g, backs+"/"+toldLook(api.MaxStates-1, 1, 0))
	wantError(t, "a state too many", vanishing(length+1), api.ErrTooBig)
	// With a terminal at the row's end, that one is read through all of them.
	g = vanishing(length - 1)
	g.Terms = append(g.Terms, api.Term{Name: "x"})
	g.Start = 3
	g.Prods = []api.Prod{{Left: 2, Right: []int{3}}, {Left: 3, Right: append(slices.Repeat([]int{4}, length-1), 1)}, {Left: 4}}
	wantReading(t, g, "0"+strings.Repeat("/1", length-1))
	wantFollowing(t, g, "0"+strings.Repeat("/1", length-1))
}

// s : n1 n2 .., where each n has a terminal of its own, or vanishes: the transition of number 1 is that of state 0 by n1, that of i the one by ni.
func TestWhatIsReadThroughAllThatVanish(t *testing.T) {
	const nons = (api.MaxSyms - 1) / 2
	g := api.Grammar{Terms: []api.Term{{}}, Nons: []string{"", "s"}, Start: nons + 2, Prods: []api.Prod{{Left: nons + 1, Right: []int{nons + 2}}, {Left: nons + 2}}}
	reading, following := "0", "0"
	for i := 1; i <= nons; i++ {
		g.Terms = append(g.Terms, api.Term{Name: "t" + strconv.Itoa(i)})
		g.Nons = append(g.Nons, "n"+strconv.Itoa(i))
		g.Prods[1].Right = append(g.Prods[1].Right, nons+2+i)
		g.Prods = append(g.Prods, api.Prod{Left: nons + 2 + i, Right: []int{i}}, api.Prod{Left: nons + 2 + i})
		reading += "/" + told(upTo(i+1, nons))
		following += "/" + told(append([]int{0}, upTo(i+1, nons)...))
	}
	wantReading(t, g, reading)
	wantFollowing(t, g, following)
	// Each n is completed in two states, by its terminal and by nothing; s behind all of them.
	sets, err := look.Sets(g)
	if err != api.OK || len(sets) != 2*nons+1 {
		t.Fatalf("%d productions have lookaheads, %d", len(sets), err)
	}
	for _, one := range sets {
		want := []int{0}
		if one.Prod > 1 {
			want = append(want, upTo(one.Prod/2+1, nons)...)
		}
		if told(one.Terms) != told(want) {
			t.Errorf("production %d has %v in state %d, not %v", one.Prod, one.Terms, one.State, want)
		}
	}
}

// s : s t1 | s t2 .. | t1, with all terminals that may be: each of them, and the end marker, follows s.
func TestTheMostTerminals(t *testing.T) {
	const terms = api.MaxSyms - 1
	g := api.Grammar{Terms: []api.Term{{}}, Nons: []string{"", "s"}, Start: terms + 2, Prods: []api.Prod{{Left: terms + 1, Right: []int{terms + 2}}}}
	all := upTo(0, terms)
	sets := toldLook(1, terms+1, all...)
	for i := 1; i <= terms; i++ {
		g.Terms = append(g.Terms, api.Term{Name: "t" + strconv.Itoa(i)})
		g.Prods = append(g.Prods, api.Prod{Left: terms + 2, Right: []int{terms + 2, i}})
		sets += "/" + toldLook(2+i, i, all...)
	}
	g.Prods = append(g.Prods, api.Prod{Left: terms + 2, Right: []int{1}})
	wantReading(t, g, told(all))
	wantFollowing(t, g, told(all))
	wantSets(t, g, sets)
	g.Terms = append(g.Terms, api.Term{Name: "more"})
	wantError(t, "a symbol too many", g, api.ErrArg)
}

// All nonterminals stand in state 0, each a step of the next one: the end marker comes down from the start symbol to the one that vanishes.
func TestTheMostTransitionsOfAState(t *testing.T) {
	const nons = api.MaxSyms
	g := api.Grammar{Terms: []api.Term{{}}, Nons: []string{""}, Start: 1 + nons, Prods: []api.Prod{{Left: 1, Right: []int{1 + nons}}}}
	sets := "0.1: 0"
	for i := range nons {
		g.Nons = append(g.Nons, "n"+strconv.Itoa(i))
		g.Prods = append(g.Prods, api.Prod{Left: 2 + i, Right: []int{1 + i}})
		if i > 0 {
			sets += "/" + toldLook(i, 1+i, 0)
		}
	}
	g.Prods[1].Right = nil
	wantReading(t, g, strings.Repeat("/", nons-1)+"0")
	wantFollowing(t, g, "0"+strings.Repeat("/0", nons-1))
	wantSets(t, g, sets)
}

// a : a, as often as may be: each production has lookaheads of its own.
func TestTheMostProductions(t *testing.T) {
	g := api.Grammar{Terms: []api.Term{{}}, Nons: []string{"", "a"}, Start: 2, Prods: []api.Prod{{Left: 1, Right: []int{2}}}}
	var sets []string
	for prod := 1; prod <= api.MaxProds; prod++ {
		g.Prods = append(g.Prods, api.Prod{Left: 2, Right: []int{2}})
		sets = append(sets, toldLook(1, prod, 0))
	}
	wantReading(t, g, "0")
	wantFollowing(t, g, "0")
	wantSets(t, g, strings.Join(sets, "/"))
	g.Prods = append(g.Prods, api.Prod{Left: 2, Right: []int{2}})
	wantError(t, "a production too many", g, api.ErrArg)
}

// Many transitions, each of which includes many: a : a .. a, many times over, or one of many that vanish.
func TestManyTransitionsAtOnce(t *testing.T) {
	const length, nons = 190, api.MaxSyms - 1
	g := api.Grammar{Terms: []api.Term{{}}, Nons: []string{"", "a"}, Start: 2, Prods: []api.Prod{{Left: 1, Right: []int{2}}, {Left: 2, Right: []int{3}}}}
	for i := range nons {
		g.Nons = append(g.Nons, "n"+strconv.Itoa(i))
		g.Prods = append(g.Prods, api.Prod{Left: 3 + i, Right: []int{4 + i}})
	}
	g.Prods[1+nons].Right = nil
	for len(g.Prods) <= api.MaxProds {
		g.Prods = append(g.Prods, api.Prod{Left: 2, Right: slices.Repeat([]int{2}, length)})
	}
	// State 0 and as many as there are a in a row have a transition of each nonterminal; behind each of them all may end.
	const transitions = (1 + length) * (1 + nons)
	wantReading(t, g, "0"+strings.Repeat("/", transitions-1))
	wantFollowing(t, g, "0"+strings.Repeat("/0", transitions-1))
	sets, err := look.Sets(g)
	if err != api.OK || len(sets) != (1+length)+nons+(api.MaxProds-1-nons) {
		t.Errorf("%d productions have lookaheads, %d", len(sets), err)
	}
	for _, one := range sets {
		if told(one.Terms) != "0" {
			t.Errorf("production %d has %v in state %d", one.Prod, one.Terms, one.State)
		}
	}
}

// R1: rows may be far longer than there are states, where nothing leads to them, and may share memory.

func TestLongRowsThatNothingReaches(t *testing.T) {
	g := readClosed(t, around+" u : ;")
	long := slices.Repeat([]int{4, 5, 6, 7}, 1<<16)
	for i := range g.Prods[6:] {
		g.Prods[6+i].Right = long
	}
	for len(g.Prods) <= api.MaxProds {
		g.Prods = append(g.Prods, api.Prod{Left: 7, Right: long})
	}
	wantReading(t, g, "0/1/2/1/")
	wantFollowing(t, g, "0/1/0 2/1/0 2")
	wantSets(t, g, "0.3: 1/1.2: 0 2/3.3: 1/4.4: 0 2/5.5: 0 2/6.1: 0 2")
}

func TestRowsThatShareMemory(t *testing.T) {
	g := vanishing(1)
	long := slices.Repeat([]int{3}, 1<<16)
	for len(g.Prods) <= api.MaxProds {
		g.Prods = append(g.Prods, api.Prod{Left: 2, Right: long})
	}
	wantError(t, "rows that are far too long", g, api.ErrTooBig)
	for i := range g.Prods[3:] {
		g.Prods[3+i].Right = long[:2]
	}
	// {0 s}, {0 a}, {2 a}: state 2 is behind a, in the midst of all rows but the first, state 3 behind a a.
	wantReading(t, g, "0//")
	wantFollowing(t, g, "0/0/0")
	var sets []string
	for prod := 3; prod <= api.MaxProds; prod++ {
		sets = append(sets, toldLook(3, prod, 0))
	}
	wantSets(t, g, "0.2: 0/2.1: 0/2.2: 0/"+strings.Join(sets, "/"))
}

// R6

func TestNoGrammar(t *testing.T) {
	wantError(t, "nothing", api.Grammar{}, api.ErrArg)
	wantError(t, "an end marker alone", api.Grammar{Terms: []api.Term{{}}}, api.ErrArg)
	for what, spoil := range map[string]func(g *api.Grammar){
		"no end marker":               func(g *api.Grammar) { g.Terms[0].Name = "w" },
		"two texts alike":             func(g *api.Grammar) { g.Terms[2].Name = g.Terms[1].Name },
		"a terminal's level too high": func(g *api.Grammar) { g.Terms[1].Level = 1 },
		"a name that is none":         func(g *api.Grammar) { g.Nons[1] = "9" },
		"two names alike":             func(g *api.Grammar) { g.Nons[2] = g.Nons[1] },
		"a level of nobody":           func(g *api.Grammar) { g.Levels = []int{api.Left} },
		"no productions":              func(g *api.Grammar) { g.Prods = nil },
		"the added production alone":  func(g *api.Grammar) { g.Prods = g.Prods[:1] },
		"no added production":         func(g *api.Grammar) { g.Prods = g.Prods[1:] },
		"no added one":                func(g *api.Grammar) { g.Nons[0] = "n" },
		"an added one of another row": func(g *api.Grammar) { g.Prods[0].Right = []int{5} },
		"an added one of the empty":   func(g *api.Grammar) { g.Prods[0].Right = nil },
		"an added one that starts":    func(g *api.Grammar) { g.Start = 3 },
		"an added one in a right":     func(g *api.Grammar) { g.Prods[1].Right[0] = 3 },
		"an added one twice a left":   func(g *api.Grammar) { g.Prods[2].Left = 3 },
		"a name too many":             func(g *api.Grammar) { g.Nons = append(g.Nons, "n") },
		"a terminal for a left":       func(g *api.Grammar) { g.Prods[1].Left = 1 },
		"the end marker in a right":   func(g *api.Grammar) { g.Prods[1].Right[0] = 0 },
		"a symbol below all":          func(g *api.Grammar) { g.Prods[1].Right[0] = -1 },
		"a symbol behind all":         func(g *api.Grammar) { g.Prods[1].Right[0] = len(g.Terms) + len(g.Nons) },
		"a symbol far above":          func(g *api.Grammar) { g.Prods[1].Right[0] = math.MaxInt },
		"a start that is a terminal":  func(g *api.Grammar) { g.Start = 1 },
		"a start that is nothing":     func(g *api.Grammar) { g.Start = math.MinInt },
	} {
		g := readClosed(t, "A : B A | 'x' ; B : A 'y' | ;")
		spoil(&g)
		wantError(t, "a closed grammar with "+what, g, api.ErrArg)
	}
	// Of two errors it is the grammar's.
	g := rising(1000)
	g.Prods[1].Right[0] = 0
	wantError(t, "too many states of what is no grammar", g, api.ErrArg)
}

// What is plain is never closed.
func TestPlainGrammars(t *testing.T) {
	for _, text := range []string{"A : ;", "A : A ;", "A : B ; B : A | 'x' ;", around} {
		wantError(t, "the plain grammar "+text, read(t, text), api.ErrArg)
	}
}

// R3

// roomy is a grammar whose lists all have spare room, with marks in it.
func roomy(g api.Grammar) api.Grammar {
	g = gram.Copy(g)
	g.Terms = append(g.Terms, api.Term{Name: "spare"})[:len(g.Terms)]
	g.Nons = append(g.Nons, "spare")[:len(g.Nons)]
	g.Levels = append(g.Levels, 77)[:len(g.Levels)]
	for i, p := range g.Prods {
		g.Prods[i].Right = append(p.Right, 77)[:len(p.Right)]
	}
	g.Prods = append(g.Prods, api.Prod{Left: 77})[:len(g.Prods)]
	return g
}

func isUntouched(g, want api.Grammar) bool {
	for i, p := range g.Prods {
		if p.Right[:len(want.Prods[i].Right)+1][len(want.Prods[i].Right)] != 77 {
			return false
		}
	}
	return gram.Same(g, want) && g.Terms[:len(g.Terms)+1][len(g.Terms)].Name == "spare" && g.Nons[:len(g.Nons)+1][len(g.Nons)] == "spare" &&
		g.Levels[:len(g.Levels)+1][len(g.Levels)] == 77 && g.Prods[:len(g.Prods)+1][len(g.Prods)].Left == 77
}

// nested has all relations: lists of several terminals, some alike.
const nested = "%left '+'; %right '*'; s : s '+' s | a s b | a ; a : b b | 'x' ; b : | a '*' | s ;"

func TestWhatIsHandedInIsNotChanged(t *testing.T) {
	want := readClosed(t, nested)
	g := roomy(want)
	look.Reading(g)
	look.Following(g)
	look.Sets(g)
	if !isUntouched(g, want) {
		t.Errorf("the grammar became %v, it was %v", g, want)
	}
}

// overwrite writes over a list, spare room too.
func overwrite[T any](list []T, by T) {
	for i := range cap(list) {
		list[:cap(list)][i] = by
	}
}

// wantOwnMemory wants that no list shares memory with another one of the same answer, spare room included.
func wantOwnMemory(t *testing.T, what string, ask func() [][]int) {
	t.Helper()
	want := ask()
	filled := 0
	for at := range want {
		if len(want[at]) > 0 {
			filled++
		}
		spoiled := ask()
		overwrite(spoiled[at], 5555)
		for i, list := range spoiled {
			if i != at && !slices.Equal(list, want[i]) {
				t.Errorf("%s: the lists %d and %d are one", what, at, i)
			}
			overwrite(list, 5555)
		}
		if again := ask(); toldLists(again) != toldLists(want) {
			t.Errorf("%s is %s, then %s", what, toldLists(want), toldLists(again))
		}
	}
	if filled < 4 {
		t.Errorf("%s has but %d lists with numbers", what, filled)
	}
}

func TestAnswersAreNewMemory(t *testing.T) {
	want := readClosed(t, nested)
	g := roomy(want)
	wantOwnMemory(t, "Reading", func() [][]int {
		lists, _ := look.Reading(g)
		return lists
	})
	wantOwnMemory(t, "Following", func() [][]int {
		lists, _ := look.Following(g)
		return lists
	})
	wantOwnMemory(t, "Sets", func() [][]int {
		sets, _ := look.Sets(g)
		var lists [][]int
		for _, one := range sets {
			lists = append(lists, one.Terms)
		}
		return lists
	})
	sets, _ := look.Sets(g)
	toldBefore := toldLooks(sets)
	overwrite(sets, api.Look{State: 55, Prod: 55})
	wantSets(t, g, toldBefore)
	if !isUntouched(g, want) {
		t.Errorf("the grammar became %v, it was %v", g, want)
	}
}
