package first_test

import (
	"slices"
	"strconv"
	"testing"

	"presage/api"
	"presage/first"
	"presage/gram"
)

// source gives numbers below n that hang on the seed alone.
func source(seed uint64) func(n int) int {
	state := seed*2 + 1
	return func(n int) int {
		state = state*6364136223846793005 + 1442695040888963407
		return int(state>>33) % n
	}
}

// somePlain is a plain grammar of at most so many terminals, nonterminals, and symbols in a row.
func somePlain(r func(int) int, terms, nons, length int) api.Grammar {
	g := api.Grammar{Terms: []api.Term{{}}}
	for i := range r(terms + 1) {
		g.Levels = append(g.Levels, 1+r(3))
		g.Terms = append(g.Terms, api.Term{Name: "t" + strconv.Itoa(i), Level: i + 1})
	}
	for i := range 1 + r(nons) {
		g.Nons = append(g.Nons, "n"+strconv.Itoa(i))
		g.Prods = append(g.Prods, api.Prod{Left: len(g.Terms) + i})
		for range r(2) {
			g.Prods = append(g.Prods, api.Prod{Left: len(g.Terms) + r(i+1)})
		}
	}
	for i := range g.Prods {
		g.Prods[i].Right = someRow(r, g, length)
		g.Prods[i].Level = r(len(g.Levels) + 1)
	}
	g.Start = len(g.Terms) + r(len(g.Nons))
	return g
}

// someRow is a row of at most so many symbols, mostly nonterminals.
func someRow(r func(int) int, g api.Grammar, length int) []int {
	var row []int
	for range r(length + 1) {
		sym := len(g.Terms) + r(len(g.Nons))
		if len(g.Terms) > 1 && r(4) == 0 {
			sym = 1 + r(len(g.Terms)-1)
		}
		row = append(row, sym)
	}
	return row
}

// someAsked is a row of at most four symbols, the end marker and the added one among them.
func someAsked(r func(int) int, g api.Grammar) []int {
	row := someRow(r, g, 4)
	if len(row) > 0 && r(4) == 0 {
		row[r(len(row))] = 0
	}
	if len(row) > 0 && r(4) == 0 {
		row[r(len(row))] = len(g.Terms)
	}
	return row
}

// manyGrammars are so many plain grammars of all sizes, and what is closed of them.
func manyGrammars(t *testing.T, count uint64, each func(r func(int) int, g api.Grammar)) {
	t.Helper()
	for seed := range count {
		r := source(seed)
		g := somePlain(r, 4, 6, 3)
		if seed%3 == 0 {
			g = somePlain(r, 12, 48, 4)
		}
		if !gram.Valid(g) {
			t.Fatalf("%v is not plain", g)
		}
		each(r, g)
		each(r, closedOf(g))
	}
}

// said is what the document says of symbols, reckoned a second time: which ones vanish by heights of trees, each from all lower ones; what is begun with by ways from a symbol to one that may come to stand first.
type said struct {
	vanish []bool   // by symbol
	ahead  [][]bool // by two symbols: may the first one lead to a row that the second one begins?
}

func saidOf(g api.Grammar) said {
	symbols := len(g.Terms) + len(g.Nons)
	s := said{vanish: make([]bool, symbols), ahead: make([][]bool, symbols)}
	for range len(g.Nons) + 1 {
		higher := slices.Clone(s.vanish)
		for _, p := range g.Prods {
			higher[p.Left] = higher[p.Left] || s.vanishes(p.Right)
		}
		s.vanish = higher
	}
	for sym := range s.ahead {
		s.ahead[sym] = make([]bool, symbols)
		s.ahead[sym][sym] = true
	}
	for _, p := range g.Prods {
		for i, sym := range p.Right {
			s.ahead[p.Left][sym] = s.ahead[p.Left][sym] || s.vanishes(p.Right[:i])
		}
	}
	for by := range symbols {
		for from := range symbols {
			for to := range symbols {
				s.ahead[from][to] = s.ahead[from][to] || s.ahead[from][by] && s.ahead[by][to]
			}
		}
	}
	return s
}

func (s said) vanishes(row []int) bool {
	return !slices.ContainsFunc(row, func(sym int) bool { return !s.vanish[sym] })
}

// begins are the terminals that rows derived from a row begin with.
func (s said) begins(g api.Grammar, row []int) []int {
	var terms []int
	for term := range g.Terms {
		for i, sym := range row {
			if s.ahead[sym][term] && s.vanishes(row[:i]) {
				terms = append(terms, term)
				break
			}
		}
	}
	return terms
}

func wantAsSaid(t *testing.T, g api.Grammar, rows ...[]int) {
	t.Helper()
	s := saidOf(g)
	var sets [][]int
	for i := range g.Nons {
		sets = append(sets, s.begins(g, []int{len(g.Terms) + i}))
	}
	wantFound(t, g, sets, s.vanish[len(g.Terms):])
	for _, row := range rows {
		set, vanishes, err := first.Row(g, row...)
		if want := s.begins(g, row); err != api.OK || vanishes != s.vanishes(row) || !slices.Equal(set, want) {
			t.Errorf("Row(%v, %v) is %v, %v, %d; want %v, %v", g, row, set, vanishes, err, want, s.vanishes(row))
		}
	}
}

// P7.1, P7.2, P7.3

func TestManyGrammars(t *testing.T) {
	vanishing, staying, wide := 0, 0, 0
	manyGrammars(t, 4000, func(r func(int) int, g api.Grammar) {
		wantAsSaid(t, g, someAsked(r, g), someAsked(r, g), someRow(r, g, 8))
		nullable, _ := first.Nullable(g)
		sets, _ := first.Sets(g)
		for i, vanishes := range nullable {
			if vanishes {
				vanishing++
			} else {
				staying++
			}
			if len(sets[i]) > 1 {
				wide++
			}
		}
	})
	if vanishing < 5000 || staying < 5000 || wide < 5000 {
		t.Errorf("%d nonterminals vanish, %d don't, %d begin with two terminals or more", vanishing, staying, wide)
	}
}

// rowsOf are the rows of at most two symbols below n, the end marker not.
func rowsOf(n int) [][]int {
	rows := [][]int{nil}
	for a := 1; a < n; a++ {
		rows = append(rows, []int{a})
		for b := 1; b < n; b++ {
			rows = append(rows, []int{a, b})
		}
	}
	return rows
}

// smallGrammars are all plain grammars of so many terminals, with productions of these nonterminals (by their numbers among these) and at most two symbols.
func smallGrammars(each func(g api.Grammar), terms int, lefts ...int) {
	g := api.Grammar{Terms: []api.Term{{}}, Prods: make([]api.Prod, len(lefts))}
	for i := range terms {
		g.Terms = append(g.Terms, api.Term{Name: "t" + strconv.Itoa(i)})
	}
	g.Start = len(g.Terms)
	for i := range slices.Max(lefts) + 1 {
		g.Nons = append(g.Nons, "n"+strconv.Itoa(i))
	}
	rows := rowsOf(len(g.Terms) + len(g.Nons))
	var fill func(i int)
	fill = func(i int) {
		if i == len(lefts) {
			each(g)
			return
		}
		for _, row := range rows {
			g.Prods[i] = api.Prod{Left: len(g.Terms) + lefts[i], Right: row}
			fill(i + 1)
		}
	}
	fill(0)
}

// derived are all rows that a row derives by rows of at most so many symbols, each as a text with a byte a symbol.
func derived(g api.Grammar, length int, syms ...int) []string {
	var begin []byte
	for _, sym := range syms {
		begin = append(begin, byte(sym))
	}
	rows := []string{string(begin)}
	seen := map[string]bool{rows[0]: true}
	for i := 0; i < len(rows); i++ {
		for at := range len(rows[i]) {
			for _, p := range g.Prods {
				if p.Left != int(rows[i][at]) || len(rows[i])-1+len(p.Right) > length {
					continue
				}
				next := []byte(rows[i][:at])
				for _, sym := range p.Right {
					next = append(next, byte(sym))
				}
				row := string(next) + rows[i][at+1:]
				if !seen[row] {
					seen[row] = true
					rows = append(rows, row)
				}
			}
		}
	}
	return rows
}

// begun are the terminals that these rows begin with, and whether the empty one is among them.
func begun(g api.Grammar, rows []string) (terms []int, empty bool) {
	for term := range g.Terms {
		if slices.ContainsFunc(rows, func(row string) bool { return row != "" && int(row[0]) == term }) {
			terms = append(terms, term)
		}
	}
	return terms, slices.Contains(rows, "")
}

// wantDerived wants what the rows say that are derived step by step. Of one or two nonterminals, and from two symbols on, four are enough: whoever replaces the first symbol each time, and takes on no way down one nonterminal twice, never has more.
func wantDerived(t *testing.T, g api.Grammar) {
	t.Helper()
	var sets [][]int
	var nullable []bool
	for i := range g.Nons {
		set, vanishes := begun(g, derived(g, 4, len(g.Terms)+i))
		sets, nullable = append(sets, set), append(nullable, vanishes)
	}
	wantFound(t, g, sets, nullable)
}

func wantDerivedRow(t *testing.T, g api.Grammar, row ...int) {
	t.Helper()
	want, empty := begun(g, derived(g, 4, row...))
	if set, vanishes, err := first.Row(g, row...); err != api.OK || vanishes != empty || !slices.Equal(set, want) {
		t.Errorf("Row(%v, %v) is %v, %v, %d; want %v, %v", g, row, set, vanishes, err, want, empty)
	}
}

func TestSmallGrammars(t *testing.T) {
	count := 0
	check := func(g api.Grammar) {
		count++
		wantDerived(t, g)
	}
	for _, lefts := range [][]int{{0}, {0, 0}, {0, 1}, {0, 0, 1}, {0, 1, 0}, {0, 1, 1}} {
		smallGrammars(check, 1, lefts...)
		smallGrammars(check, 2, lefts...)
	}
	if count != 7+13+49+169+169+441+3*(2197+9261) {
		t.Errorf("%d small grammars", count)
	}
}

func TestSmallGrammarsOfThree(t *testing.T) {
	smallGrammars(func(g api.Grammar) { wantAsSaid(t, g) }, 1, 0, 1, 2)
}

func TestRowsOfSmallGrammars(t *testing.T) {
	smallGrammars(func(g api.Grammar) {
		symbols := len(g.Terms) + len(g.Nons)
		wantDerivedRow(t, g)
		for a := range symbols {
			wantDerivedRow(t, g, a)
			for b := range symbols {
				wantDerivedRow(t, g, a, b)
			}
		}
	}, 2, 0, 1)
}

// P7.4

// rowOf is what Row tells, if it has no error.
func rowOf(t *testing.T, g api.Grammar, syms ...int) (set []int, vanishes bool) {
	t.Helper()
	set, vanishes, err := first.Row(g, syms...)
	if err != api.OK {
		t.Errorf("Row(%v, %v) answers %d", g, syms, err)
	}
	return set, vanishes
}

// joined are the members of these lists, rising, each once.
func joined(lists ...[]int) []int {
	all := slices.Concat(lists...)
	slices.Sort(all)
	return slices.Compact(all)
}

func TestRowsOfOneSymbolOrNone(t *testing.T) {
	manyGrammars(t, 600, func(r func(int) int, g api.Grammar) {
		wantRowAlone := func(want []int, wantVanishes bool, syms ...int) {
			if set, vanishes := rowOf(t, g, syms...); vanishes != wantVanishes || !slices.Equal(set, want) {
				t.Errorf("Row(%v, %v) is %v, %v; want %v, %v", g, syms, set, vanishes, want, wantVanishes)
			}
		}
		wantRowAlone(nil, true)
		for term := range g.Terms {
			wantRowAlone([]int{term}, false, term)
		}
		sets, _ := first.Sets(g)
		nullable, _ := first.Nullable(g)
		for i := range g.Nons {
			wantRowAlone(sets[i], nullable[i], len(g.Terms)+i)
		}
	})
}

func TestARowBehindARow(t *testing.T) {
	through := 0
	manyGrammars(t, 4000, func(r func(int) int, g api.Grammar) {
		a, b := someAsked(r, g), someAsked(r, g)
		want, wantVanishes := rowOf(t, g, a...)
		if wantVanishes {
			through++
			var more []int
			more, wantVanishes = rowOf(t, g, b...)
			want = joined(want, more)
		}
		if set, vanishes := rowOf(t, g, slices.Concat(a, b)...); vanishes != wantVanishes || !slices.Equal(set, want) {
			t.Errorf("Row(%v) of %v and %v is %v, %v; want %v, %v", g, a, b, set, vanishes, want, wantVanishes)
		}
	})
	if through < 1000 {
		t.Errorf("only %d first rows vanish", through)
	}
}

func TestANonterminalHasWhatItsProductionsHave(t *testing.T) {
	manyGrammars(t, 600, func(r func(int) int, g api.Grammar) {
		wants := make([][]int, len(g.Nons))
		wantNullable := make([]bool, len(g.Nons))
		for _, p := range g.Prods {
			i := p.Left - len(g.Terms)
			set, vanishes := rowOf(t, g, p.Right...)
			wants[i] = joined(wants[i], set)
			wantNullable[i] = wantNullable[i] || vanishes
		}
		wantFound(t, g, wants, wantNullable)
	})
}

// R4

// What is answered does not hang on the order in which productions stand.
func TestTheOrderOfProductionsIsNothingToSets(t *testing.T) {
	for seed := range uint64(1000) {
		r := source(seed)
		c := closedOf(somePlain(r, 6, 30, 3))
		nullable, _ := first.Nullable(c)
		sets, _ := first.Sets(c)
		for i := 1; i < len(c.Prods); i++ {
			j := i + r(len(c.Prods)-i)
			c.Prods[i], c.Prods[j] = c.Prods[j], c.Prods[i]
		}
		wantFound(t, c, sets, nullable)
	}
}
