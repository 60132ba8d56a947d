package forge_test

import (
	"fmt"
	"slices"
	"strconv"
	"strings"
	"testing"

	"presage/api"
	"presage/forge"
	"presage/gram"
	"presage/look"
	"presage/lr0"
	"presage/pack"
	"presage/reach"
	"presage/resolve"
	"presage/spec"
	"presage/table"
)

// toldGrammar is a grammar as a text; lists without elements are alike, nil or not.
func toldGrammar(g api.Grammar) string {
	var terms []string
	for _, term := range g.Terms {
		terms = append(terms, fmt.Sprintf("%q/%d", term.Name, term.Level))
	}
	return fmt.Sprintf("%s %q %d %d %d", terms, g.Nons, g.Levels, g.Start, g.Prods)
}

// toldAll is all that a system tells, as a text.
func toldAll(s *forge.System) string {
	return fmt.Sprintln(toldGrammar(s.Grammar()), s.Automaton(), s.Looks(), s.Settled(), s.Packed(), s.Clear())
}

// saidAll is what the document has a system of a closed grammar tell: the answers of the layers below.
func saidAll(t *testing.T, c api.Grammar) string {
	t.Helper()
	a, noAutomaton := lr0.Build(c)
	looks, noLooks := look.Sets(c)
	s, noTable := resolve.Settle(c)
	p, noPacked := pack.Pack(s.Dense)
	clashes, noClashes := table.Clashes(c)
	for _, err := range []api.Errno{noAutomaton, noLooks, noTable, noPacked, noClashes} {
		if err != api.OK {
			t.Fatalf("the layers below answer %d of %v", err, c)
		}
	}
	return fmt.Sprintln(toldGrammar(c), a, looks, s, p, len(clashes) == 0)
}

// toldMishap is a mishap as a text: its code, place and circle.
func toldMishap(m api.Mishap) string {
	return fmt.Sprintf("%d %d %q", int(m.Code), m.At, m.Cycle)
}

// wantOf wants of a grammar a system of this closed grammar.
func wantOf(t *testing.T, g, closed api.Grammar) *forge.System {
	t.Helper()
	s, m := forge.Of(g)
	if s == nil || toldMishap(m) != "0 0 []" {
		t.Fatalf("Of(%v) answers %s; want a system", g, toldMishap(m))
	}
	if got := s.Grammar(); !gram.Same(got, closed) {
		t.Errorf("Of(%v) has the grammar %v; want %v", g, got, closed)
	}
	if got, want := toldAll(s), saidAll(t, closed); got != want {
		t.Errorf("Of(%v) tells %s; want %s", g, got, want)
	}
	return s
}

// wantNoneOf wants of a grammar this mishap and no system.
func wantNoneOf(t *testing.T, what string, g api.Grammar, want string) {
	t.Helper()
	if s, m := forge.Of(g); s != nil || toldMishap(m) != want {
		t.Errorf("%s: Of answers %v, %s; want none, %s", what, s != nil, toldMishap(m), want)
	}
}

// wantRead wants of a text a system: that of the grammar that is read of it.
func wantRead(t *testing.T, text string) *forge.System {
	t.Helper()
	s, m := forge.Read(text)
	if s == nil || toldMishap(m) != "0 0 []" {
		t.Fatalf("Read(%.200q) answers %s; want a system", text, toldMishap(m))
	}
	g, _ := spec.Read(text)
	closed, err := reach.Reduce(g)
	if err != api.OK {
		t.Fatalf("Reduce of %.200q answers %d", text, err)
	}
	if got, want := toldAll(s), saidAll(t, closed); got != want {
		t.Errorf("Read(%.200q) tells %s; want %s", text, got, want)
	}
	return s
}

// wantNoneRead wants of a text this mishap and no system.
func wantNoneRead(t *testing.T, text, want string) {
	t.Helper()
	if s, m := forge.Read(text); s != nil || toldMishap(m) != want {
		t.Errorf("Read(%.200q) answers %v, %s; want none, %s", text, s != nil, toldMishap(m), want)
	}
}

// plain is the grammar of a text.
func plain(t *testing.T, text string) api.Grammar {
	t.Helper()
	g, m := spec.Read(text)
	if m.Code != api.OK {
		t.Fatalf("%.200q is no grammar: %d at %d", text, m.Code, m.At)
	}
	return g
}

// closedOf is the closed grammar of a text.
func closedOf(t *testing.T, text string) api.Grammar {
	t.Helper()
	c, err := reach.Reduce(plain(t, text))
	if err != api.OK {
		t.Fatalf("Reduce of %.200q answers %d", text, err)
	}
	return c
}

// P17.1: the chapter's examples, and those of the whole

const (
	operators = "%left '+'; %left '*'; e : e '+' e | e '*' e | n ;"
	sums      = "e : e '+' t | t ; t : n ;"
	mixed     = "s : a 'x' | 'y' a 'z' | b 'z' | 'y' b 'x' ; a : 'w' ; b : 'w' ;"
	less      = "%nonassoc '<'; e : e '<' e | n ;"
	nothing   = "s : a 'b' ; a : ;"
	pairs     = "s : 'a' a 'd' | 'b' b 'd' | 'a' b 'e' | 'b' a 'e' ; a : 'c' ; b : 'c' ;"
)

// The error numbers of a mishap's text, with the place and the circle that most have.
const (
	isArg    = "1 0 []"
	isTooBig = "11 0 []"
	isEmpty  = "12 0 []"
)

func TestExamplesThatAreNoSystems(t *testing.T) {
	wantNoneRead(t, "s : s ;", isEmpty)
	wantNoneRead(t, "s : 's' s ;", isEmpty)
	wantNoneRead(t, "s : s | 'x' ;", `13 0 ["s"]`)
	wantNoneRead(t, "s : a ; a : b a | 'y' ; b : ;", `13 0 ["a"]`)
	wantNoneRead(t, "s : a ; a : b ; b : a | 'x' ;", `13 0 ["a" "b"]`)
	wantNoneRead(t, "s : a s b | 'x' ; a : ; b : ;", `13 0 ["s"]`)
	wantNoneRead(t, "s :", "10 3 []")
	wantNoneRead(t, "", "10 0 []")
	wantNoneRead(t, "s : 'x' ; %left 'x';", "10 10 []")
}

func TestExamplesThatAreSystems(t *testing.T) {
	for _, c := range []struct {
		text         string
		states, open int
		clear        bool
	}{
		{"s : 'x' | u ; u : u ;", 3, 0, true},
		{"e : e '+' e | n ;", 5, 1, false},
		{"%left '+'; e : e '+' e | n ;", 5, 0, false},
		{pairs, 13, 2, false},
		{operators, 7, 0, false},
		{"e : e '+' e | e '*' e | n ;", 7, 4, false},
		{sums, 6, 0, true},
		{mixed, 12, 2, false},
		{less, 5, 0, false},
		{"s : 'x' s | 'x' ;", 4, 0, true},
		{nothing, 4, 0, true},
	} {
		s := wantRead(t, c.text)
		if states := len(s.Automaton().States); states != c.states {
			t.Errorf("%s has %d states; want %d", c.text, states, c.states)
		}
		if open := len(s.Settled().Conflicts); open != c.open || s.Clear() != c.clear {
			t.Errorf("%s has %d open cells, Clear is %v; want %d, %v", c.text, open, s.Clear(), c.open, c.clear)
		}
	}
	// The open cells of pairs stand in one state, at d and e.
	if got := fmt.Sprint(wantRead(t, pairs).Settled().Conflicts); got != "[{4 2 [{2 5} {2 6}]} {4 4 [{2 5} {2 6}]}]" {
		t.Errorf("the open cells are %s", got)
	}
}

// P17.1: Read

// What a text is refused for, and where, is what layer 4 says.
func TestReadOfWhatIsNoText(t *testing.T) {
	for text, at := range map[string]int{
		"s": 1, "s : ; ;": 6, "s : 'x ;": 8, "s : $ ;": 4, "%start r; s : ;": 15, "%start s; %start s; s : ;": 10,
		"%left x; %right y x; s : ;": 18, "%token x x; s : ;": 9, "s : %prec ;": 10, "# only this": 11, "s : ; s : aaaaaaaaaaaaaaaaa ;": 26,
		// Ahead of what else might be said of it: it would be empty, and cyclic.
		"s : s ; :": 8, "s : s | 'x' ; $": 14,
	} {
		wantNoneRead(t, text, "10 "+strconv.Itoa(at)+" []")
	}
}

// rowOf is a row of so many x.
func rowOf(length int) string { return strings.Repeat("'x' ", length) }

// signs are so many unlike terminals, from a number on.
func signs(from, count int) string {
	text := ""
	for i := range count {
		text += "t" + strconv.Itoa(from+i) + " "
	}
	return text
}

// rules are so many times the production s : x, ahead of which s stands already.
func rules(count int) string { return strings.Repeat("| 'x' ", count) }

func TestTheLongestText(t *testing.T) {
	text := "s : 'x' ;"
	wantRead(t, text+strings.Repeat(" ", api.MaxText-len(text)))
	wantNoneRead(t, text+strings.Repeat(" ", api.MaxText+1-len(text)), "10 8192 []")
}

func TestTheMostSymbols(t *testing.T) {
	if g := wantRead(t, "s : "+signs(1, api.MaxSyms-1)+";").Grammar(); len(g.Terms) != api.MaxSyms || len(g.Nons) != 2 {
		t.Errorf("the grammar has %d terminals, %d nonterminals", len(g.Terms), len(g.Nons))
	}
	wantNoneRead(t, "s : "+signs(1, api.MaxSyms)+";", isTooBig)
	// Those that are of no use count in a text.
	wantNoneRead(t, "s : 'x' ; u : "+signs(1, api.MaxSyms-2)+";", isTooBig)
	wantRead(t, "s : 'x' ; u : "+signs(1, api.MaxSyms-3)+";")
}

func TestTheMostNonterminals(t *testing.T) {
	text := ""
	for i := range api.MaxSyms {
		text += "n" + strconv.Itoa(i) + " : n" + strconv.Itoa(i+1) + " ; "
	}
	last := "n" + strconv.Itoa(api.MaxSyms-1) + " : "
	text, _, _ = strings.Cut(text, last)
	s := wantRead(t, text+last+";")
	if g := s.Grammar(); len(g.Terms) != 1 || len(g.Nons) != api.MaxSyms+1 || len(s.Packed().Targets) != api.MaxSyms+1 {
		t.Errorf("the grammar has %d terminals, %d nonterminals", len(g.Terms), len(g.Nons))
	}
	wantNoneRead(t, text+last+"'x' ;", isTooBig)
}

func TestTheMostProductions(t *testing.T) {
	s := wantRead(t, "s : 'x' "+rules(api.MaxProds-1)+";")
	if g := s.Grammar(); len(g.Prods) != api.MaxProds+1 || s.Clear() || len(s.Settled().Conflicts) != 1 {
		t.Errorf("the grammar has %d productions", len(g.Prods))
	}
	wantNoneRead(t, "s : 'x' "+rules(api.MaxProds)+";", isTooBig)
}

// s : x .. x has two states more than there are x.
func TestTheMostStates(t *testing.T) {
	for _, length := range []int{api.MaxStates - 2, api.MaxStates - 3} {
		if a := wantRead(t, "s : "+rowOf(length)+";").Automaton(); len(a.States) != length+2 {
			t.Errorf("%d states; want %d", len(a.States), length+2)
		}
	}
	tooLong := "s : " + rowOf(api.MaxStates-1) + ";"
	wantNoneRead(t, tooLong, isTooBig)
	wantNoneOf(t, "plain", plain(t, tooLong), isTooBig)
	wantNoneOf(t, "closed", closedOf(t, tooLong), isTooBig)
	wantNoneRead(t, "s : "+rowOf(1000)+";", isTooBig)
	// What is of no use has no states.
	wantRead(t, "s : 'x' | 'x' u ; u : 'x' u "+rowOf(1000)+"; v : "+rowOf(1000)+";")
}

func TestWhichComesFirst(t *testing.T) {
	many := signs(1, api.MaxSyms)
	long := rowOf(api.MaxStates)
	// ErrSyntax, then symbols and productions.
	wantNoneRead(t, "s : "+many+"; s", fmt.Sprint("10 ", len("s : "+many+"; s"), " []"))
	wantNoneRead(t, "s : 'x' "+rules(api.MaxProds)+"; ;", fmt.Sprint("10 ", len("s : 'x' "+rules(api.MaxProds)+"; "), " []"))
	// Then ErrEmpty.
	wantNoneRead(t, "s : s "+many+";", isTooBig)
	wantNoneRead(t, "s : s | s "+strings.Repeat("| s ", api.MaxProds-1)+";", isTooBig)
	wantNoneRead(t, "s : s | s "+strings.Repeat("| s ", api.MaxProds-2)+";", isEmpty)
	// Then ErrCyclic.
	wantNoneRead(t, "s : a | s ; a : a 'x' ;", isEmpty)
	wantNoneRead(t, "s : s | 'x' "+rules(api.MaxProds-1)+";", isTooBig)
	// Then the states.
	wantNoneRead(t, "s : s "+long+";", isEmpty)
	wantNoneRead(t, "s : s | "+long+";", `13 0 ["s"]`)
	wantNoneRead(t, "s : a | "+long+"; a : a | ;", `13 0 ["a"]`)
}

// P17.1: circles

func TestCircles(t *testing.T) {
	for text, want := range map[string]string{
		// Begun with the least one that is on a circle, though another one leads there.
		"s : c ; c : b | 'x' ; b : c ;":                         `13 0 ["c" "b"]`,
		"b : c ; c : b | 'x' ;":                                 `13 0 ["b" "c"]`,
		"s : 'x' a b ; a : 'y' ; b : a | b ;":                   `13 0 ["b"]`,
		"s : a b c | 'x' ; a : ; b : s ; c : a a ;":             `13 0 ["s" "b"]`,
		"s : a ; a : b | c ; b : c ; c : a | 'x' ;":             `13 0 ["a" "c"]`,
		"s : a ; a : b | c ; b : a | 'x' ; c : a ;":             `13 0 ["a" "b"]`,
		"_s9 : Long_name_of_16_ ; Long_name_of_16_ : _s9 | x ;": `13 0 ["_s9" "Long_name_of_16_"]`,
		"%start c; a : b | 'x' ; b : a ; c : 'y' b ;":           `13 0 ["a" "b"]`,
	} {
		wantNoneRead(t, text, want)
		wantNoneOf(t, text, plain(t, text), want)
		wantNoneOf(t, text+" closed", closedOf(t, text), want)
	}
}

// A circle of what is of no use is none; nor is one beside which something stays.
func TestWhatIsNoCircle(t *testing.T) {
	for _, text := range []string{
		"s : 'x' ; u : u | 'y' ;",
		"s : 'x' | u ; u : u v ; v : v | ;",
		"s : 'x' | s u ; u : u ;",
		"s : s a | 'x' ; a : 'y' ;",
		"s : a b ; a : s 'x' | ; b : 'x' s | ;",
	} {
		wantRead(t, text)
	}
}

// The circle may have all nonterminals that may be.
func TestTheLongestCircle(t *testing.T) {
	text, names := "", []string(nil)
	for i := range api.MaxSyms {
		text += "n" + strconv.Itoa(i) + " : n" + strconv.Itoa((i+1)%api.MaxSyms) + " ; "
		names = append(names, "n"+strconv.Itoa(i))
	}
	wantNoneRead(t, text+"n9 : ;", fmt.Sprintf("13 0 %q", names))
}

// P17.1: Of

func TestOfPlainGrammars(t *testing.T) {
	for _, text := range []string{"s : 'x' ;", "s : ;", operators, sums, mixed, less, nothing, pairs, "%start b; a : b 'x' ; b : a | 'y' ; c : 'y' c ;"} {
		wantOf(t, plain(t, text), closedOf(t, text))
	}
	wantNoneOf(t, "empty", plain(t, "s : s ; a : 'x' ;"), isEmpty)
	wantNoneOf(t, "empty, though its first nonterminal is not", plain(t, "%start s; a : 'x' ; s : s a ;"), isEmpty)
}

// What is of no use is gone, and the others keep their order; terminals and levels all stay.
func TestTheClosedGrammarOfAPlainOne(t *testing.T) {
	text := "%left y; %right z; %start s; u : u ; s : 'x' w | s u | s 'y' s ; v : w ; w : 'x' %prec z | ;"
	s := wantRead(t, text)
	want := api.Grammar{
		Terms:  []api.Term{{}, {Name: "y", Level: 1}, {Name: "z", Level: 2}, {Name: "x"}},
		Nons:   []string{"", "s", "w"},
		Levels: []int{api.Left, api.Right},
		Start:  5,
		Prods:  []api.Prod{{Left: 4, Right: []int{5}}, {Left: 5, Right: []int{3, 6}}, {Left: 5, Right: []int{5, 1, 5}, Level: 1}, {Left: 6, Right: []int{3}, Level: 2}, {Left: 6}},
	}
	if g := s.Grammar(); !gram.Same(g, want) {
		t.Errorf("the grammar is %v; want %v", g, want)
	}
}

// turned is a closed grammar whose nonterminals and productions stand in an order of their own: a : b x | b x a, b : | 'b'.
func turned() api.Grammar {
	return api.Grammar{
		Terms:  []api.Term{{}, {Name: "x", Level: 1}, {Name: "b"}},
		Nons:   []string{"", "b", "a"},
		Levels: []int{api.Right},
		Start:  5,
		Prods:  []api.Prod{{Left: 3, Right: []int{5}}, {Left: 5, Right: []int{4, 1}}, {Left: 4, Level: 1}, {Left: 5, Right: []int{4, 1, 5}}, {Left: 4, Right: []int{2}}},
	}
}

// A closed grammar is left as it is.
func TestOfClosedGrammars(t *testing.T) {
	wantOf(t, turned(), turned())
	for _, text := range []string{"s : 'x' ;", "s : ;", operators, sums, mixed, less, nothing, pairs} {
		c := closedOf(t, text)
		wantOf(t, c, c)
	}
}

// with is the turned grammar with a nonterminal more, of these productions: its number is 6.
func with(prods ...api.Prod) api.Grammar {
	g := turned()
	g.Nons = append(g.Nons, "u")
	g.Prods = append(g.Prods, prods...)
	return g
}

func TestClosedGrammarsWithWhatIsOfNoUse(t *testing.T) {
	x := []int{1}
	wantNoneOf(t, "one that nothing leads to", with(api.Prod{Left: 6, Right: x}), isArg)
	wantNoneOf(t, "one that leads to nothing", with(api.Prod{Left: 6, Right: []int{6}}, api.Prod{Left: 5, Right: []int{6}}), isArg)
	wantNoneOf(t, "one that only leads back to itself", with(api.Prod{Left: 6, Right: []int{1, 6}}, api.Prod{Left: 6}), isArg)
	wantNoneOf(t, "one beside what derives no row of terminals", with(api.Prod{Left: 6, Right: x}, api.Prod{Left: 5, Right: []int{6, 7}}), isArg)
	g := with(api.Prod{Left: 6, Right: x}, api.Prod{Left: 7, Right: []int{7}}, api.Prod{Left: 5, Right: []int{6, 7}})
	g.Nons = append(g.Nons, "v")
	wantNoneOf(t, "two, one of which derives a row of terminals", g, isArg)
	// Nothing is of use where the start symbol derives no row of terminals; this is no ErrEmpty.
	g = api.Grammar{Terms: []api.Term{{}}, Nons: []string{"", "s"}, Start: 2, Prods: []api.Prod{{Left: 1, Right: []int{2}}, {Left: 2, Right: []int{2}}}}
	wantNoneOf(t, "a start symbol that derives nothing", g, isArg)
	// Ahead of circles and states.
	wantNoneOf(t, "a circle beside", with(api.Prod{Left: 6, Right: x}, api.Prod{Left: 5, Right: []int{5}}), isArg)
	wantNoneOf(t, "too many states beside", with(api.Prod{Left: 6, Right: x}, api.Prod{Left: 5, Right: slices.Repeat(x, 300)}), isArg)
	// With all of use it is a system, a circle, too big.
	g = with(api.Prod{Left: 6, Right: x}, api.Prod{Left: 5, Right: []int{6, 1}})
	wantOf(t, g, g)
	wantNoneOf(t, "a circle", with(api.Prod{Left: 6, Right: []int{5}}, api.Prod{Left: 5, Right: []int{6, 4}}), `13 0 ["a" "u"]`)
	wantNoneOf(t, "too many states", with(api.Prod{Left: 6, Right: x}, api.Prod{Left: 5, Right: append(slices.Repeat(x, 300), 6)}), isTooBig)
}

// Each of these turns one thing of a grammar that may be, so that it may not.
func TestOfWhatIsNoGrammar(t *testing.T) {
	wantNoneOf(t, "nothing", api.Grammar{}, isArg)
	for name, turn := range map[string]func(g *api.Grammar){
		"no end marker":               func(g *api.Grammar) { g.Terms = g.Terms[1:] },
		"an end marker with a text":   func(g *api.Grammar) { g.Terms[0].Name = "x" },
		"an end marker with a level":  func(g *api.Grammar) { g.Terms[0].Level = 1 },
		"two terminals of a text":     func(g *api.Grammar) { g.Terms[2].Name = g.Terms[1].Name },
		"a quote":                     func(g *api.Grammar) { g.Terms[1].Name = "'" },
		"a level that is none":        func(g *api.Grammar) { g.Terms[1].Level = 3 },
		"a level without a terminal":  func(g *api.Grammar) { g.Levels = append(g.Levels, api.Left) },
		"a side that is none":         func(g *api.Grammar) { g.Levels[0] = 4 },
		"a name that is none":         func(g *api.Grammar) { g.Nons[len(g.Nons)-1] = "9" },
		"a nonterminal without rules": func(g *api.Grammar) { g.Nons = append(g.Nons, "u") },
		"no productions":              func(g *api.Grammar) { g.Prods = nil },
		"an end marker in a row":      func(g *api.Grammar) { g.Prods[1].Right[0] = 0 },
		"a symbol that is none":       func(g *api.Grammar) { g.Prods[1].Right[0] = 77 },
		"a symbol below 0":            func(g *api.Grammar) { g.Prods[1].Right[0] = -1 },
		"a terminal as a left side":   func(g *api.Grammar) { g.Prods[1].Left = 1 },
		"a production's level":        func(g *api.Grammar) { g.Prods[1].Level = -1 },
		"a start symbol that is none": func(g *api.Grammar) { g.Start = 1 },
		"too many symbols":            func(g *api.Grammar) { g.Terms = append(g.Terms, plainTerms(api.MaxSyms)...) },
		"too many productions":        func(g *api.Grammar) { g.Prods = append(g.Prods, slices.Repeat(g.Prods[1:2], api.MaxProds)...) },
	} {
		for _, g := range []api.Grammar{plain(t, operators), closedOf(t, operators), turned()} {
			turn(&g)
			wantNoneOf(t, name, g, isArg)
		}
	}
	for name, turn := range map[string]func(g *api.Grammar){
		"an added one with another name":   func(g *api.Grammar) { g.Nons[0] = "$start" },
		"an added production with a level": func(g *api.Grammar) { g.Prods[0].Level = 1 },
		"another added production":         func(g *api.Grammar) { g.Prods[0].Right = []int{1} },
		"a longer added production":        func(g *api.Grammar) { g.Prods[0].Right = []int{g.Start, 1} },
		"an added one in a row":            func(g *api.Grammar) { g.Prods[1].Right[0] = len(g.Terms) },
		"an added one with two rules":      func(g *api.Grammar) { g.Prods[1].Left = len(g.Terms) },
		"another start symbol":             func(g *api.Grammar) { g.Start-- },
	} {
		for _, g := range []api.Grammar{closedOf(t, operators), turned()} {
			turn(&g)
			wantNoneOf(t, name, g, isArg)
		}
	}
	// A plain grammar has its nonterminals in the order of their first productions.
	g := plain(t, "s : a 'x' ; a : 'y' ;")
	g.Prods[0], g.Prods[1] = g.Prods[1], g.Prods[0]
	wantNoneOf(t, "nonterminals in another order", g, isArg)
	// Ahead of all else: of what else might be said.
	g = plain(t, "s : s ;")
	g.Levels = []int{api.Left}
	wantNoneOf(t, "empty too", g, isArg)
	g = closedOf(t, "s : s | 'x' ;")
	g.Levels = []int{api.Left}
	wantNoneOf(t, "cyclic too", g, isArg)
	g = closedOf(t, "s : "+rowOf(300)+";")
	g.Levels = []int{api.Left}
	wantNoneOf(t, "too big too", g, isArg)
}

// plainTerms are so many terminals without levels.
func plainTerms(count int) []api.Term {
	var terms []api.Term
	for i := range count {
		terms = append(terms, api.Term{Name: "more" + strconv.Itoa(i)})
	}
	return terms
}

// Closed grammars at their bounds: the added ones don't count.
func TestTheMostOfAClosedGrammar(t *testing.T) {
	g := api.Grammar{Terms: append([]api.Term{{}}, plainTerms(api.MaxSyms-1)...), Nons: []string{"", "s"}, Start: api.MaxSyms + 1, Prods: []api.Prod{{Left: api.MaxSyms, Right: []int{api.MaxSyms + 1}}}}
	for i := range api.MaxProds {
		g.Prods = append(g.Prods, api.Prod{Left: g.Start, Right: []int{1 + i%(api.MaxSyms-1), 1 + i/(api.MaxSyms-1)}})
	}
	if s := wantOf(t, g, g); !s.Clear() {
		t.Error("it has clashes")
	}
	more := gram.Copy(g)
	more.Prods = append(more.Prods, api.Prod{Left: g.Start})
	wantNoneOf(t, "a production too many", more, isArg)
	more = gram.Copy(g)
	more.Terms = append(more.Terms, api.Term{Name: "one"})
	wantNoneOf(t, "a terminal too many", more, isArg)
}

// P17.2

// The numbers are those of chapter 18's example.
func TestTold(t *testing.T) {
	s := wantRead(t, "s : 'x' ;")
	for what, c := range map[string][2]any{
		"Grammar":   {s.Grammar(), "{[{ 0} {x 0}] [ s] [] 3 [{2 [3] 0} {3 [1] 0}]}"},
		"Automaton": {s.Automaton(), "{[{[{0 0}] [{1 1} {3 2}]} {[{1 1}] []} {[{0 1}] []}] 3 3}"},
		"Looks":     {s.Looks(), "[{1 1 [0]}]"},
		"Settled":   {s.Settled(), "{{[[{0 0} {1 1}] [{2 1} {0 0}] [{3 0} {0 0}]] [[-1 2] [-1 -1] [-1 -1]]} []}"},
		"Packed":    {s.Packed(), "{[-1 1 -1] {[0 0 0] [-1 2] [2 0]} [-1 2] {[0 0] [] []}}"},
		"Clear":     {s.Clear(), "true"},
	} {
		if got := fmt.Sprint(c[0]); got != c[1] {
			t.Errorf("%s is %s; want %s", what, got, c[1])
		}
	}
}

// Without a clash, with one that levels settle (by a side, or by refusing), with one that stays open.
func TestClear(t *testing.T) {
	for text, want := range map[string][3]int{ // whether it is clear, how many cells are open, how many refuse
		"e : e '+' n | n ;":                 {1, 0, 0},
		"%left '+'; e : e '+' n | n ;":      {1, 0, 0},
		"e : e '+' e | n ;":                 {0, 1, 0},
		"%left '+'; e : e '+' e | n ;":      {0, 0, 0},
		"%right '+'; e : e '+' e | n ;":     {0, 0, 0},
		"%nonassoc '+'; e : e '+' e | n ;":  {0, 0, 1},
		"s : 'x' | 'x' ;":                   {0, 1, 0},
		"%left x; s : 'x' | 'x' %prec x ;":  {0, 1, 0},
		"s : s 'z' a | 'x' ; a : | 'y' ;":   {1, 0, 0},
		"s : a | b ; a : 'x' ; b : 'x' ;":   {0, 1, 0},
		"s : a 'y' | b ; a : 'x' ; b : x ;": {1, 0, 0},
	} {
		s := wantRead(t, text)
		got := [3]int{0, len(s.Settled().Conflicts), refusals(s.Settled().Dense)}
		if s.Clear() {
			got[0] = 1
		}
		if got != want {
			t.Errorf("%s: clear, open, refusing is %v; want %v", text, got, want)
		}
	}
}

// refusals is how many cells refuse.
func refusals(d api.Dense) int {
	count := 0
	for _, list := range d.Actions {
		for _, action := range list {
			if action.Kind == api.Refuse {
				count++
			}
		}
	}
	return count
}

// R1: a nil system, and zero ones.
func TestNoSystem(t *testing.T) {
	var none, made *forge.System
	made, _ = forge.Read("s : s ;")
	copied := *new(forge.System)
	zero := fmt.Sprintln(toldGrammar(api.Grammar{}), api.Automaton{}, []api.Look{}, api.Settled{}, api.Packed{}, false)
	for what, s := range map[string]*forge.System{"nil": none, "refused": made, "a zero one": {}, "new": new(forge.System), "copied": &copied} {
		if got := toldAll(s); got != zero {
			t.Errorf("%s: it tells %s; want %s", what, got, zero)
		}
	}
}

// Systems that one text made are no one's but their own, and a zero one that is written over a system leaves the others.
func TestSystemsAreApart(t *testing.T) {
	one, other := wantRead(t, operators), wantRead(t, operators)
	want := toldAll(one)
	*one = forge.System{}
	if one.Clear() || len(one.Looks()) > 0 || toldAll(other) != want {
		t.Errorf("it tells %s; want %s", toldAll(other), want)
	}
}
