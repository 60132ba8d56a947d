package forge_test

import (
	"slices"
	"strconv"
	"strings"
	"testing"

	"presage/api"
	"presage/forge"
	"presage/gram"
	"presage/pack"
	"presage/resolve"
	"presage/show"
	"presage/spec"
	"presage/table"
)

// source gives numbers below n that hang on the seed alone.
func source(seed uint64) func(n int) int {
	state := seed*2 + 1
	return func(n int) int {
		state = state*6364136223846793005 + 1442695040888963407
		return int(state>>33) % n
	}
}

// sizes are the most that a grammar has: of terminals, nonterminals, productions beside one each, symbols in a row; and how often, of a hundred times, a symbol is a terminal.
type sizes struct{ terms, nons, more, length, terminals int }

// somePlain is a plain grammar with levels; much of it may be of no use.
func somePlain(r func(n int) int, most sizes) api.Grammar {
	b := gram.New()
	terms, nons := 1+r(most.terms), 1+r(most.nons)
	for i := range terms {
		b.Term("t" + strconv.Itoa(i))
	}
	for i := range nons {
		b.Non("n" + strconv.Itoa(i))
	}
	levels := 0
	for term := 1; term <= terms; term++ {
		if r(3) > 0 {
			levels, _ = b.Level(1+r(3), term)
		}
	}
	for i := range nons + r(most.more) {
		var right []int
		for range r(most.length + 1) {
			if r(100) < most.terminals {
				right = append(right, 1+r(terms))
			} else {
				right = append(right, -1-r(nons))
			}
		}
		prod, _ := b.Rule(-1-i%nons, right...)
		if r(4) == 0 {
			b.Grade(r(levels+1), prod)
		}
	}
	b.Start(-1 - r(nons))
	g, _ := b.Grammar()
	return g
}

// manyPlain are so many plain grammars: small ones, such that are often empty or cyclic, such that have many states, or too many.
func manyPlain(t *testing.T, count uint64, each func(r func(n int) int, g api.Grammar)) {
	t.Helper()
	for seed := range count {
		r := source(seed)
		most := []sizes{{4, 3, 6, 4, 60}, {2, 5, 3, 3, 30}, {3, 6, 5, 2, 40}, {8, 10, 12, 5, 70}, {2, 2, 5, 160, 99}, {12, 16, 30, 4, 70}}[seed%6]
		g := somePlain(r, most)
		if !gram.Valid(g) {
			t.Fatalf("%v is not plain", g)
		}
		each(r, g)
	}
}

// answersOf count what was answered, by the errors' numbers.
type answersOf map[api.Errno]int

func (a answersOf) want(t *testing.T, least map[api.Errno]int) {
	t.Helper()
	for code, count := range least {
		if a[code] < count {
			t.Errorf("%d was answered but %d times", code, a[code])
		}
	}
}

// wantSaid wants of a grammar what the document answers.
func (a answersOf) wantSaid(t *testing.T, g api.Grammar, isClosed bool) {
	t.Helper()
	_, m := forge.Of(g)
	a[m.Code]++
	if closed, mishap := saidOf(g, isClosed); mishap != "" {
		wantNoneOf(t, toldGrammar(g), g, mishap)
	} else {
		wantOf(t, g, closed)
	}
}

func TestManyPlainGrammars(t *testing.T) {
	a := answersOf{}
	manyPlain(t, 1500, func(r func(n int) int, g api.Grammar) { a.wantSaid(t, g, false) })
	a.want(t, map[api.Errno]int{api.OK: 600, api.ErrEmpty: 250, api.ErrCyclic: 130, api.ErrTooBig: 40})
}

// someClosed is a plain grammar with the added one, all its nonterminals, of use or not, and all productions in an order of their own.
func someClosed(r func(n int) int, g api.Grammar) api.Grammar {
	c := api.Grammar{Terms: g.Terms, Nons: append([]string{""}, g.Nons...), Levels: g.Levels, Start: g.Start + 1}
	c.Prods = []api.Prod{{Left: len(g.Terms), Right: []int{c.Start}}}
	for _, p := range g.Prods {
		moved := api.Prod{Left: p.Left + 1, Level: p.Level}
		for _, sym := range p.Right {
			if sym >= len(g.Terms) {
				sym++
			}
			moved.Right = append(moved.Right, sym)
		}
		c.Prods = append(c.Prods, moved)
	}
	for i := 1; i < len(c.Prods); i++ {
		j := i + r(len(c.Prods)-i)
		c.Prods[i], c.Prods[j] = c.Prods[j], c.Prods[i]
	}
	return c
}

func TestManyClosedGrammars(t *testing.T) {
	a := answersOf{}
	manyPlain(t, 1500, func(r func(n int) int, g api.Grammar) { a.wantSaid(t, someClosed(r, g), true) })
	a.want(t, map[api.Errno]int{api.OK: 180, api.ErrArg: 800, api.ErrCyclic: 90, api.ErrTooBig: 25})
}

// rowsOf are all rows of at most two symbols, from 1 on, below a bound.
func rowsOf(symbols int) [][]int {
	all := [][]int{nil}
	for one := 1; one < symbols; one++ {
		all = append(all, []int{one})
		for other := 1; other < symbols; other++ {
			all = append(all, []int{one, other})
		}
	}
	return all
}

// smallGrammars are all plain grammars of one terminal, with productions of these nonterminals, by their numbers among them, and at most two symbols, from each start symbol.
func smallGrammars(each func(g api.Grammar), lefts ...int) {
	nons := slices.Max(lefts) + 1
	g := api.Grammar{Terms: []api.Term{{}, {Name: "x"}}, Nons: []string{"s", "a"}[:nons], Prods: make([]api.Prod, len(lefts))}
	rows := rowsOf(2 + nons)
	var fill func(i int)
	fill = func(i int) {
		if i == len(lefts) {
			for start := range nons {
				g.Start = 2 + start
				each(g)
			}
			return
		}
		for _, row := range rows {
			g.Prods[i] = api.Prod{Left: 2 + lefts[i], Right: row}
			fill(i + 1)
		}
	}
	fill(0)
}

func TestAllSmallGrammars(t *testing.T) {
	a := answersOf{}
	for _, lefts := range [][]int{{0}, {0, 0}, {0, 0, 0}, {0, 1}, {0, 0, 1}, {0, 1, 0}, {0, 1, 1}} {
		smallGrammars(func(g api.Grammar) { a.wantSaid(t, g, false) }, lefts...)
	}
	a.want(t, map[api.Errno]int{api.OK: 3000, api.ErrEmpty: 5000, api.ErrCyclic: 500})
}

// Q6: texts

// turnedText is a text with some bytes turned, put in, or taken out.
func turnedText(r func(n int) int, text string) string {
	const bytes = "':;|%# \nxs0$"
	for range r(3) {
		at := r(len(text))
		by := string(bytes[r(len(bytes))])
		text = text[:at] + []string{by + text[at:], by + text[at+1:], text[at+1:]}[r(3)]
	}
	return text
}

// wantOneAnswer wants of a text the first of the document's answers that applies.
func (a answersOf) wantOneAnswer(t *testing.T, text string) {
	t.Helper()
	_, m := forge.Read(text)
	a[m.Code]++
	if at := spec.Bad(text); at >= 0 {
		wantNoneRead(t, text, "10 "+strconv.Itoa(at)+" []")
		return
	}
	g, read := spec.Read(text)
	if read.Code != api.OK {
		wantNoneRead(t, text, isTooBig)
		return
	}
	if _, mishap := saidOf(g, false); mishap != "" {
		wantNoneRead(t, text, mishap)
	} else {
		wantRead(t, text)
	}
}

func TestManyTexts(t *testing.T) {
	a := answersOf{}
	manyPlain(t, 1500, func(r func(n int) int, g api.Grammar) {
		text, err := show.Text(g)
		if err != api.OK {
			return
		}
		if r(20) == 0 {
			text += "more : " + signs(100, 50) + ";"
		}
		a.wantOneAnswer(t, turnedText(r, text))
	})
	a.want(t, map[api.Errno]int{api.OK: 300, api.ErrSyntax: 450, api.ErrTooBig: 30, api.ErrEmpty: 110, api.ErrCyclic: 60})
}

// Q6: the open cells are those that levels and sides don't settle.
func TestOpenCells(t *testing.T) {
	open, settled := 0, 0
	manyPlain(t, 1000, func(r func(n int) int, g api.Grammar) {
		s, _ := forge.Of(g)
		if s == nil {
			return
		}
		var want []api.Cell
		merged, _ := table.Merged(s.Grammar())
		for _, c := range merged {
			_, left, _ := resolve.Cell(s.Grammar(), c)
			if len(left) > 0 {
				want = append(want, api.Cell{State: c.State, Term: c.Term, Actions: left})
			} else if len(c.Actions) > 1 {
				settled++
			}
		}
		got := s.Settled().Conflicts
		open += len(got)
		same := func(a, b api.Cell) bool {
			return a.State == b.State && a.Term == b.Term && slices.Equal(a.Actions, b.Actions)
		}
		if !slices.EqualFunc(got, want, same) {
			t.Errorf("%v has the open cells %v; want %v", g, got, want)
		}
	})
	if open < 700 || settled < 200 {
		t.Errorf("%d cells are open, %d settled", open, settled)
	}
}

// P17.3

// manySystems are the systems of about half of so many grammars, with what they were made of.
func manySystems(t *testing.T, count uint64, each func(r func(n int) int, g api.Grammar, s *forge.System)) {
	t.Helper()
	manyPlain(t, count, func(r func(n int) int, g api.Grammar) {
		if s, m := forge.Of(g); m.Code == api.OK {
			each(r, g, s)
		}
	})
}

// A system that is clear has no open cells, and its dense table no Refuse.
func TestWhatIsClear(t *testing.T) {
	clear, withOpen, withRefuse := 0, 0, 0
	manySystems(t, 1500, func(r func(n int) int, g api.Grammar, s *forge.System) {
		open, refusing := len(s.Settled().Conflicts), refusals(s.Settled().Dense)
		switch {
		case s.Clear() && open+refusing > 0:
			t.Errorf("%v is clear, but %d cells are open, and %d refuse", g, open, refusing)
		case s.Clear():
			clear++
		case open > 0:
			withOpen++
		}
		if refusing > 0 {
			withRefuse++
		}
	})
	if clear < 150 || withOpen < 200 || withRefuse < 40 {
		t.Errorf("%d are clear, %d have open cells, %d refuse", clear, withOpen, withRefuse)
	}
}

// loose is a text of the same words, with other blanks and with remarks between them.
func loose(r func(n int) int, text string) string {
	var all strings.Builder
	for _, word := range strings.Fields(text) {
		all.WriteString([]string{" ", "\n\t", " # : ' |\n", "\r\n"}[r(4)] + word)
	}
	return all.String() + []string{"", "  ", " # the end"}[r(3)]
}

// Read of show's text of a plain grammar is Of it, be it a system or not; and so is that of another text of the same grammar.
func TestTextsOfOneGrammar(t *testing.T) {
	systems, others := 0, 0
	manyPlain(t, 900, func(r func(n int) int, g api.Grammar) {
		text, err := show.Text(g)
		if err != api.OK {
			return
		}
		s, m := forge.Of(g)
		if s == nil {
			others++
			wantNoneRead(t, text, toldMishap(m))
			return
		}
		systems++
		want := toldAll(s)
		for _, one := range []string{text, loose(r, text)} {
			if len(one) > api.MaxText {
				continue
			}
			if again, m := forge.Read(one); again == nil || toldAll(again) != want {
				t.Errorf("Read(%q) answers %s, and tells %s; want %s", one, toldMishap(m), toldAll(again), want)
			}
		}
	})
	if systems < 300 || others < 250 {
		t.Errorf("%d systems were made, %d others were none", systems, others)
	}
}

// Texts of the same grammar may have other words, too.
func TestOtherWordsForOneGrammar(t *testing.T) {
	for _, texts := range [][]string{
		{"e : e '+' n | n ;", "e : e '+' n ; e : n ;", "%token '+' n; %start e; e : e '+' 'n' %none | n %none ;"},
		{operators, "%left '+'; %left '*'; e : e '+' e %prec '+' ; e : e '*' e | 'n' ;", "%token '+'; %left '+'; %left '*'; %token n; e : e '+' e | e '*' e | n ;"},
		{"s : a 'x' ; a : ;", "%token x; %start s; s : a x ; a : %none ;"},
	} {
		want := toldAll(wantRead(t, texts[0]))
		for _, text := range texts[1:] {
			if got := toldAll(wantRead(t, text)); got != want {
				t.Errorf("%s tells %s; %s told %s", text, got, texts[0], want)
			}
		}
	}
	// Not of one grammar: the numbers of terminals, the levels, the productions are others.
	for _, texts := range [][2]string{
		{"e : e '+' n | n ;", "%token n; e : e '+' n | n ;"},
		{"e : e '+' n | n ;", "%left '+'; e : e '+' n | n ;"},
		{"e : e '+' n | n ;", "e : n | e '+' n ;"},
	} {
		if toldAll(wantRead(t, texts[0])) == toldAll(wantRead(t, texts[1])) {
			t.Errorf("%s and %s tell the same", texts[0], texts[1])
		}
	}
}

// Of a system's Grammar is that system again.
func TestOfItsGrammarAgain(t *testing.T) {
	again := func(g api.Grammar, s *forge.System) {
		wantOf(t, s.Grammar(), s.Grammar())
		if other, m := forge.Of(s.Grammar()); other == nil || toldAll(other) != toldAll(s) {
			t.Errorf("%v: Of its Grammar answers %s, and tells %s; want %s", g, toldMishap(m), toldAll(other), toldAll(s))
		}
	}
	systems := 0
	manySystems(t, 500, func(r func(n int) int, g api.Grammar, s *forge.System) {
		systems++
		again(g, s)
		if s, m := forge.Of(someClosed(r, g)); m.Code == api.OK {
			again(g, s)
		}
	})
	if systems < 200 {
		t.Errorf("%d systems were made", systems)
	}
}

// What systems are for.

// tableOf is what a run asks.
type tableOf struct {
	action func(state, term int) api.Action
	to     func(state, non int) int
}

// tablesOf are a system's two tables.
func tablesOf(s *forge.System) []tableOf {
	d, p := s.Settled().Dense, s.Packed()
	return []tableOf{
		{func(state, term int) api.Action { return d.Actions[state][term] }, func(state, non int) int { return d.Gotos[state][non] }},
		{func(state, term int) api.Action { return pack.Action(p, state, term) }, func(state, non int) int { return pack.Goto(p, state, non) }},
	}
}

// grouped is what a run makes of a row of terminals' texts, with brackets around what comes of one production with two symbols or more; or where it is refused.
func grouped(t *testing.T, g api.Grammar, by tableOf, row string) string {
	t.Helper()
	words := strings.Fields(row)
	states, texts := []int{0}, []string{}
	for at := 0; len(states) < 100; {
		term := 0
		if at < len(words) {
			term = slices.IndexFunc(g.Terms, func(one api.Term) bool { return one.Name == words[at] })
		}
		switch action := by.action(states[len(states)-1], term); action.Kind {
		case api.Shift:
			states, texts = append(states, action.To), append(texts, words[at])
			at++
		case api.Reduce:
			p := g.Prods[action.To]
			left := len(texts) - len(p.Right)
			text := strings.Join(texts[left:], "")
			if len(p.Right) > 1 {
				text = "(" + text + ")"
			}
			states, texts = states[:left+1], append(texts[:left], text)
			states = append(states, by.to(states[left], p.Left-len(g.Terms)))
		case api.Accept:
			return texts[0]
		default:
			return "refused at " + strconv.Itoa(at)
		}
	}
	t.Errorf("%q has no end", row)
	return ""
}

func TestRunsBySystems(t *testing.T) {
	for _, c := range [][3]string{
		{operators, "n + n * n", "(n+(n*n))"},
		{operators, "n + n + n", "((n+n)+n)"},
		{operators, "n * n + n", "((n*n)+n)"},
		{"e : e '+' e | e '*' e | n ;", "n * n + n", "(n*(n+n))"},
		{sums, "n + n + n", "((n+n)+n)"},
		{sums, "n +", "refused at 2"},
		{sums, "n n", "refused at 1"},
		{sums, "", "refused at 0"},
		{less, "n < n", "(n<n)"},
		{less, "n < n < n", "refused at 3"},
		{"s : 'x' s | 'x' ;", "x x x", "(x(xx))"},
		{nothing, "b", "(b)"},
		{nothing, "b b", "refused at 1"},
		{mixed, "w z", "refused at 1"},
		{mixed, "y w z", "(ywz)"},
		{"s : 'x' | s u ; u : u ;", "x", "x"},
		{"%start b; a : b 'x' ; b : a 'y' | 'z' ; c : 'y' c ;", "z x y x y", "((((zx)y)x)y)"},
	} {
		s := wantRead(t, c[0])
		for i, by := range tablesOf(s) {
			if got := grouped(t, s.Grammar(), by, c[1]); got != c[2] {
				t.Errorf("%s makes %s of %q by table %d; want %s", c[0], got, c[1], i, c[2])
			}
		}
	}
}
