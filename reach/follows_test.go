package reach_test

import (
	"slices"
	"strconv"
	"testing"

	"presage/api"
	"presage/gram"
	"presage/reach"
)

// source gives numbers below n that hang on the seed alone.
func source(seed uint64) func(n int) int {
	state := seed*2 + 1
	return func(n int) int {
		state = state*6364136223846793005 + 1442695040888963407
		return int(state>>33) % n
	}
}

// somePlain is a plain grammar of at most so many terminals, nonterminals, and symbols in a row.
func somePlain(r func(int) int, terms, nons, length int) api.Grammar {
	g := api.Grammar{Terms: []api.Term{{}}}
	for i := range r(terms + 1) {
		g.Levels = append(g.Levels, 1+r(3))
		g.Terms = append(g.Terms, api.Term{Name: "t" + strconv.Itoa(i), Level: i + 1})
	}
	for i := range 1 + r(nons) {
		g.Nons = append(g.Nons, "n"+strconv.Itoa(i))
		g.Prods = append(g.Prods, api.Prod{Left: len(g.Terms) + i})
		for range r(2) {
			g.Prods = append(g.Prods, api.Prod{Left: len(g.Terms) + r(i+1)})
		}
	}
	for i := range g.Prods {
		g.Prods[i].Right = someRow(r, g, length)
		g.Prods[i].Level = r(len(g.Levels) + 1)
	}
	g.Start = len(g.Terms) + r(len(g.Nons))
	return g
}

// someRow is a row of at most so many symbols, mostly nonterminals.
func someRow(r func(int) int, g api.Grammar, length int) []int {
	var row []int
	for range r(length + 1) {
		sym := len(g.Terms) + r(len(g.Nons))
		if len(g.Terms) > 1 && r(4) == 0 {
			sym = 1 + r(len(g.Terms)-1)
		}
		row = append(row, sym)
	}
	return row
}

// manyGrammars are grammars of all sizes, most of them such that something is of no use.
func manyGrammars(t *testing.T, each func(g api.Grammar)) {
	t.Helper()
	for seed := range uint64(6000) {
		g := somePlain(source(seed), 3, 6, 3)
		if seed%3 == 0 {
			g = somePlain(source(seed), 10, 48, 3)
		}
		if !gram.Valid(g) {
			t.Fatalf("%v is not plain", g)
		}
		each(g)
	}
}

// markedBy tells of each nonterminal whether it derives a row of terminals, and whether one in which the mark stands that the nonterminal of this symbol may be replaced by as well. It goes by heights of trees, each from all lower ones.
func markedBy(g api.Grammar, marked int) (some, with []bool) {
	nons := len(g.Nons)
	some, with = make([]bool, nons), make([]bool, nons)
	for range 2*nons + 2 {
		higher, higherWith := slices.Clone(some), slices.Clone(with)
		for _, p := range g.Prods {
			whole, holds := true, false
			for _, sym := range p.Right {
				if i := sym - len(g.Terms); i >= 0 {
					whole = whole && some[i]
					holds = holds || with[i]
				}
			}
			left := p.Left - len(g.Terms)
			higher[left] = higher[left] || whole
			higherWith[left] = higherWith[left] || whole && holds
		}
		if i := marked - len(g.Terms); i >= 0 && some[i] {
			higherWith[i] = true
		}
		some, with = higher, higherWith
	}
	return some, with
}

// said are the marks of a grammar, reckoned a second time: a nonterminal is useful, if the start symbol derives a row with a mark for which it stands.
func said(g api.Grammar) (productive, useful []bool) {
	productive, _ = markedBy(g, -1)
	for i := range g.Nons {
		_, with := markedBy(g, len(g.Terms)+i)
		useful = append(useful, with[g.Start-len(g.Terms)])
	}
	if g.Nons[0] == "" {
		useful[0] = useful[g.Start-len(g.Terms)]
	}
	return productive, useful
}

// saidReduced is the reduced grammar, told a second time, by names.
func saidReduced(g api.Grammar, productive, useful []bool) api.Grammar {
	c := api.Grammar{Terms: g.Terms, Levels: g.Levels, Nons: []string{""}}
	for i, name := range g.Nons {
		if useful[i] {
			c.Nons = append(c.Nons, name)
		}
	}
	first := len(g.Terms)
	number := func(sym int) int {
		if sym < first {
			return sym
		}
		return first + slices.Index(c.Nons, g.Nons[sym-first])
	}
	c.Start = number(g.Start)
	c.Prods = []api.Prod{{Left: first, Right: []int{c.Start}}}
	for _, p := range g.Prods {
		fails := func(sym int) bool { return sym >= first && !productive[sym-first] }
		if useful[p.Left-first] && !slices.ContainsFunc(p.Right, fails) {
			moved := api.Prod{Left: number(p.Left), Level: p.Level}
			for _, sym := range p.Right {
				moved.Right = append(moved.Right, number(sym))
			}
			c.Prods = append(c.Prods, moved)
		}
	}
	return c
}

func wantMarksAsSaid(t *testing.T, g api.Grammar) (productive, useful []bool) {
	t.Helper()
	productive, useful = said(g)
	if got, err := reach.Productive(g); err != api.OK || !slices.Equal(got, productive) {
		t.Errorf("Productive(%v) is %v, %d; want %v", g, got, err, productive)
	}
	if got, err := reach.Useful(g); err != api.OK || !slices.Equal(got, useful) {
		t.Errorf("Useful(%v) is %v, %d; want %v", g, got, err, useful)
	}
	return productive, useful
}

// P6.1, P6.2

func TestManyGrammars(t *testing.T) {
	empty, whole, part := 0, 0, 0
	manyGrammars(t, func(g api.Grammar) {
		wantMarksAsSaid(t, closedOf(g))
		productive, useful := wantMarksAsSaid(t, g)
		c, err := reach.Reduce(g)
		if !productive[g.Start-len(g.Terms)] {
			empty++
			if err != api.ErrEmpty || !isZero(c) || slices.Contains(useful, true) {
				t.Errorf("Reduce(%v) is %v, %d; want ErrEmpty alone", g, c, err)
			}
			return
		}
		if want := saidReduced(g, productive, useful); err != api.OK || !gram.Same(c, want) {
			t.Errorf("Reduce(%v) is %v, %d; want %v", g, c, err, want)
		}
		if slices.Contains(useful, false) {
			part++
		} else {
			whole++
		}
	})
	if empty < 500 || whole < 500 || part < 500 {
		t.Errorf("%d of the grammars derive nothing, %d are useful as a whole, %d in part", empty, whole, part)
	}
}

// rowsOf are the rows of at most two symbols below n, the end marker not.
func rowsOf(n int) [][]int {
	rows := [][]int{nil}
	for a := 1; a < n; a++ {
		rows = append(rows, []int{a})
		for b := 1; b < n; b++ {
			rows = append(rows, []int{a, b})
		}
	}
	return rows
}

// smallGrammars are all plain grammars of one terminal, with productions of these Lefts and at most two symbols.
func smallGrammars(each func(g api.Grammar), lefts ...int) {
	g := api.Grammar{Terms: []api.Term{{}, {Name: "x"}}, Prods: make([]api.Prod, len(lefts))}
	for i := range slices.Max(lefts) - 1 {
		g.Nons = append(g.Nons, "n"+strconv.Itoa(i))
	}
	rows := rowsOf(2 + len(g.Nons))
	var fill func(i int)
	fill = func(i int) {
		if i == len(lefts) {
			for start := range g.Nons {
				g.Start = 2 + start
				each(g)
			}
			return
		}
		for _, row := range rows {
			g.Prods[i] = api.Prod{Left: lefts[i], Right: row}
			fill(i + 1)
		}
	}
	fill(0)
}

// derived are all rows that a symbol derives by rows of at most so many symbols, each as a text with a byte a symbol.
func derived(g api.Grammar, sym, length int) []string {
	rows := []string{string([]byte{byte(sym)})}
	seen := map[string]bool{rows[0]: true}
	for i := 0; i < len(rows); i++ {
		for at := range len(rows[i]) {
			for _, p := range g.Prods {
				if p.Left != int(rows[i][at]) || len(rows[i])-1+len(p.Right) > length {
					continue
				}
				next := []byte(rows[i][:at])
				for _, sym := range p.Right {
					next = append(next, byte(sym))
				}
				row := string(next) + rows[i][at+1:]
				if !seen[row] {
					seen[row] = true
					rows = append(rows, row)
				}
			}
		}
	}
	return rows
}

// derivedMarks are the marks by the document's words: by all rows that are derived. Of two nonterminals, rows of four symbols are enough: a tree that takes none of them twice on one way down, and ends in terminals, or in none, has no more ends.
func derivedMarks(g api.Grammar) (productive, useful []bool) {
	productive, useful = make([]bool, len(g.Nons)), make([]bool, len(g.Nons))
	for i := range g.Nons {
		for _, row := range derived(g, 2+i, 4) {
			productive[i] = productive[i] || !slices.ContainsFunc([]byte(row), func(sym byte) bool { return sym >= 2 })
		}
	}
	for _, row := range derived(g, g.Start, 4) {
		if slices.ContainsFunc([]byte(row), func(sym byte) bool { return sym >= 2 && !productive[sym-2] }) {
			continue
		}
		for _, sym := range []byte(row) {
			if sym >= 2 {
				useful[sym-2] = true
			}
		}
	}
	return productive, useful
}

func TestSmallGrammars(t *testing.T) {
	count := 0
	check := func(g api.Grammar) {
		count++
		productive, useful := derivedMarks(g)
		if got, err := reach.Productive(g); err != api.OK || !slices.Equal(got, productive) {
			t.Errorf("Productive(%v) is %v, %d; want %v", g, got, err, productive)
		}
		if got, err := reach.Useful(g); err != api.OK || !slices.Equal(got, useful) {
			t.Errorf("Useful(%v) is %v, %d; want %v", g, got, err, useful)
		}
	}
	smallGrammars(check, 2)
	smallGrammars(check, 2, 2)
	smallGrammars(check, 2, 3)
	smallGrammars(check, 2, 2, 3)
	smallGrammars(check, 2, 3, 2)
	smallGrammars(check, 2, 3, 3)
	if count != 7+49+2*169+3*2*2197 {
		t.Errorf("%d small grammars", count)
	}
}

func TestSmallGrammarsOfThree(t *testing.T) {
	smallGrammars(func(g api.Grammar) { wantMarksAsSaid(t, g) }, 2, 3, 4)
}

// P6.3

// language are the rows of at most three terminals that a symbol derives, as texts with a byte a terminal.
type language map[string]bool

// languages are those of all symbols.
func languages(g api.Grammar) []language {
	all := make([]language, len(g.Terms)+len(g.Nons))
	for sym := range all {
		all[sym] = language{}
		if sym < len(g.Terms) {
			all[sym][string([]byte{byte(sym)})] = true
		}
	}
	for grown := true; grown; {
		grown = false
		for _, p := range g.Prods {
			for row := range behind(all, p.Right) {
				grown = grown || !all[p.Left][row]
				all[p.Left][row] = true
			}
		}
	}
	return all
}

// behind are the rows that a row of symbols derives, as far as the symbols' own are known.
func behind(all []language, syms []int) language {
	rows := language{"": true}
	for _, sym := range syms {
		longer := language{}
		for row := range rows {
			for more := range all[sym] {
				if len(row)+len(more) <= 3 {
					longer[row+more] = true
				}
			}
		}
		rows = longer
	}
	return rows
}

func sameLanguage(a, b language) bool {
	for row := range a {
		if !b[row] {
			return false
		}
	}
	return len(a) == len(b)
}

func TestTheReducedGrammarDerivesTheSame(t *testing.T) {
	reduced, rich := 0, 0
	for seed := range uint64(10000) {
		g := somePlain(source(seed), 2, 6, 3)
		c, err := reach.Reduce(g)
		before := languages(g)
		if err == api.ErrEmpty {
			if len(before[g.Start]) > 0 {
				t.Errorf("Reduce(%v) answers ErrEmpty, though rows are derived", g)
			}
			continue
		}
		reduced++
		after := languages(c)
		if len(after[c.Start]) > 1 {
			rich++
		}
		if !sameLanguage(before[g.Start], after[c.Start]) || !sameLanguage(before[g.Start], after[len(c.Terms)]) {
			t.Errorf("%v and %v derive unlike rows", g, c)
		}
		for i, name := range c.Nons[1:] {
			was := len(g.Terms) + slices.Index(g.Nons, name)
			if !sameLanguage(before[was], after[len(c.Terms)+1+i]) {
				t.Errorf("%s derives unlike rows in %v and %v", name, g, c)
			}
		}
	}
	if reduced < 1000 || rich < 500 {
		t.Errorf("only %d were reduced, %d of them with two rows or more", reduced, rich)
	}
}

// opened is a closed grammar without the added ones.
func opened(c api.Grammar) api.Grammar {
	g := gram.Copy(c)
	g.Nons, g.Prods, g.Start = g.Nons[1:], g.Prods[1:], g.Start-1
	for i, p := range g.Prods {
		g.Prods[i].Left--
		for j, sym := range p.Right {
			if sym >= len(g.Terms) {
				p.Right[j]--
			}
		}
	}
	return g
}

func TestOfTheReducedGrammarAllIsUseful(t *testing.T) {
	twice := 0
	manyGrammars(t, func(g api.Grammar) {
		c, err := reach.Reduce(g)
		if err != api.OK {
			return
		}
		if !gram.Closed(c) {
			t.Errorf("Reduce(%v) is %v, which is not closed", g, c)
		}
		for what, call := range map[string]markCall{"Productive": reach.Productive, "Useful": reach.Useful} {
			if marked, err := call(c); err != api.OK || len(marked) != len(c.Nons) || slices.Contains(marked, false) {
				t.Errorf("%s(%v) is %v, %d", what, c, marked, err)
			}
		}
		if plain := opened(c); gram.Valid(plain) {
			twice++
			if again, err := reach.Reduce(plain); err != api.OK || !gram.Same(again, c) {
				t.Errorf("Reduce(%v) is %v, %d; want %v", plain, again, err, c)
			}
		}
	})
	if twice < 1000 {
		t.Errorf("only %d were reduced twice", twice)
	}
}

func TestAProductionMoreTakesNothingAway(t *testing.T) {
	gained := 0
	for seed := range uint64(4000) {
		r := source(seed)
		g := somePlain(r, 3, 20, 3)
		before, _ := reach.Productive(g)
		more := gram.Copy(g)
		more.Prods = append(more.Prods, api.Prod{Left: len(g.Terms) + r(len(g.Nons)), Right: someRow(r, g, 2)})
		after, err := reach.Productive(more)
		if err != api.OK || len(after) != len(before) {
			t.Fatalf("Productive(%v) is %v, %d", more, after, err)
		}
		for i, was := range before {
			if was && !after[i] {
				t.Errorf("%s is productive in %v, but not in %v", g.Nons[i], g, more)
			}
		}
		if !slices.Equal(before, after) {
			gained++
		}
	}
	if gained < 200 {
		t.Errorf("only %d have gained by a production more", gained)
	}
}

// Marks do not hang on the order in which productions stand.
func TestTheOrderOfProductionsIsNothingToMarks(t *testing.T) {
	for seed := range uint64(1000) {
		r := source(seed)
		c := closedOf(somePlain(r, 3, 30, 2))
		productive, _ := reach.Productive(c)
		useful, _ := reach.Useful(c)
		for i := 1; i < len(c.Prods); i++ {
			j := i + r(len(c.Prods)-i)
			c.Prods[i], c.Prods[j] = c.Prods[j], c.Prods[i]
		}
		if got, err := reach.Productive(c); err != api.OK || !slices.Equal(got, productive) {
			t.Errorf("Productive(%v) is %v, %d; want %v", c, got, err, productive)
		}
		if got, err := reach.Useful(c); err != api.OK || !slices.Equal(got, useful) {
			t.Errorf("Useful(%v) is %v, %d; want %v", c, got, err, useful)
		}
	}
}
