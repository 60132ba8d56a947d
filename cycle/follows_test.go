package cycle_test

import (
	"slices"
	"strconv"
	"testing"

	"presage/api"
	"presage/cycle"
	"presage/gram"
)

// source gives numbers below n that hang on the seed alone.
func source(seed uint64) func(n int) int {
	state := seed*2 + 1
	return func(n int) int {
		state = state*6364136223846793005 + 1442695040888963407
		return int(state>>33) % n
	}
}

// someClosed is a closed grammar of at most so many terminals, nonterminals, and symbols in a row.
func someClosed(r func(int) int, terms, nons, length int) api.Grammar {
	g := api.Grammar{Terms: []api.Term{{}}, Nons: []string{""}}
	for i := range r(terms + 1) {
		g.Levels = append(g.Levels, 1+r(3))
		g.Terms = append(g.Terms, api.Term{Name: "t" + strconv.Itoa(i), Level: i + 1})
	}
	g.Prods = []api.Prod{{Left: len(g.Terms)}}
	for i := range 1 + r(nons) {
		g.Nons = append(g.Nons, "n"+strconv.Itoa(i))
		g.Prods = append(g.Prods, api.Prod{Left: len(g.Terms) + 1 + i})
		for range r(2) {
			g.Prods = append(g.Prods, api.Prod{Left: len(g.Terms) + 1 + r(i+1)})
		}
	}
	for i := range g.Prods {
		g.Prods[i].Right = someRow(r, g, length)
	}
	g.Start = len(g.Terms) + 1 + r(len(g.Nons)-1)
	g.Prods[0].Right = []int{g.Start}
	shuffle(r, g.Prods[1:])
	return g
}

// someRow is a row of at most so many symbols, mostly nonterminals.
func someRow(r func(int) int, g api.Grammar, length int) []int {
	var row []int
	for range r(length + 1) {
		sym := len(g.Terms) + 1 + r(len(g.Nons)-1)
		if len(g.Terms) > 1 && r(4) == 0 {
			sym = 1 + r(len(g.Terms)-1)
		}
		row = append(row, sym)
	}
	return row
}

func shuffle(r func(int) int, prods []api.Prod) {
	for i := range prods {
		j := i + r(len(prods)-i)
		prods[i], prods[j] = prods[j], prods[i]
	}
}

// manyGrammars are so many closed grammars of all sizes; every other one of them has long circles, since nearly all rows are of one symbol.
func manyGrammars(t *testing.T, count uint64, each func(r func(int) int, g api.Grammar)) {
	t.Helper()
	for seed := range count {
		r := source(seed)
		g := someClosed(r, 3, 6, 3)
		switch seed % 4 {
		case 1:
			g = someClosed(r, 12, 48, 3)
		case 2:
			g = someClosed(r, 0, 7, 1)
		case 3:
			g = someClosed(r, 0, 48, 1)
		}
		if !gram.Closed(g) {
			t.Fatalf("%v is not closed", g)
		}
		each(r, g)
	}
}

// saidVanish tells of each nonterminal whether it derives the empty row, by heights of trees, each from all lower ones.
func saidVanish(g api.Grammar) []bool {
	vanish := make([]bool, len(g.Nons))
	for range len(g.Nons) + 1 {
		higher := slices.Clone(vanish)
		for _, p := range g.Prods {
			if allVanish(g, vanish, p.Right) {
				higher[p.Left-len(g.Terms)] = true
			}
		}
		vanish = higher
	}
	return vanish
}

func allVanish(g api.Grammar, vanish []bool, row []int) bool {
	return !slices.ContainsFunc(row, func(sym int) bool { return sym < len(g.Terms) || !vanish[sym-len(g.Terms)] })
}

// saidSteps are the steps by the document's words: of each place of a row, whether all beside it vanishes.
func saidSteps(g api.Grammar) [][]int {
	vanish := saidVanish(g)
	steps := make([][]int, len(g.Nons))
	for _, p := range g.Prods {
		for at, sym := range p.Right {
			beside := slices.Concat(p.Right[:at], p.Right[at+1:])
			left := p.Left - len(g.Terms)
			if sym >= len(g.Terms) && allVanish(g, vanish, beside) && !slices.Contains(steps[left], sym) {
				steps[left] = append(steps[left], sym)
			}
		}
	}
	for _, to := range steps {
		slices.Sort(to)
	}
	return steps
}

// far is more steps than any shortest way has.
const far = 1000

// distances are, by two nonterminals, how many steps lead from the first one to the second, one at least; far or more: none do.
func distances(g api.Grammar, steps [][]int) [][]int {
	nons := len(g.Nons)
	apart := make([][]int, nons)
	for i, to := range steps {
		apart[i] = slices.Repeat([]int{far}, nons)
		for _, sym := range to {
			apart[i][sym-len(g.Terms)] = 1
		}
	}
	for by := range nons {
		for from := range nons {
			for to := range nons {
				apart[from][to] = min(apart[from][to], apart[from][by]+apart[by][to])
			}
		}
	}
	return apart
}

// saidCircles tells who is on a circle, by distances, and the circle that is found: at each place the least one that is near enough to the first.
func saidCircles(g api.Grammar, steps [][]int) (on, find []int) {
	apart := distances(g, steps)
	for i := range g.Nons {
		if apart[i][i] < far {
			on = append(on, len(g.Terms)+i)
		}
	}
	if len(on) == 0 {
		return nil, nil
	}
	find = on[:1:1]
	begin := on[0] - len(g.Terms)
	for left := apart[begin][begin] - 1; left > 0; left-- {
		for _, sym := range steps[find[len(find)-1]-len(g.Terms)] {
			if apart[sym-len(g.Terms)][begin] == left {
				find = append(find, sym)
				break
			}
		}
	}
	return on, find
}

func wantAsSaid(t *testing.T, g api.Grammar) (on, find []int) {
	t.Helper()
	steps := saidSteps(g)
	on, find = saidCircles(g, steps)
	wantAll(t, g, steps, on, find)
	return on, find
}

// P8.1, P8.2

func TestManyGrammars(t *testing.T) {
	none, lengths := 0, make([]int, 65)
	manyGrammars(t, 8000, func(r func(int) int, g api.Grammar) {
		on, find := wantAsSaid(t, g)
		if len(on) == 0 {
			none++
		}
		lengths[len(find)]++
	})
	long := 0
	for _, count := range lengths[4:] {
		long += count
	}
	if none < 1000 || lengths[1] < 500 || lengths[2] < 500 || lengths[3] < 200 || long < 100 {
		t.Errorf("%d of the grammars have no circle; so many have one of 0, 1, 2, .. nonterminals: %v", none, lengths)
	}
}

// circlesFrom are all circles that begin with this nonterminal, gone one by one.
func circlesFrom(steps [][]int, lowest, begin int) [][]int {
	var circles [][]int
	var goOn func(way []int)
	goOn = func(way []int) {
		for _, to := range steps[way[len(way)-1]-lowest] {
			if to == begin {
				circles = append(circles, slices.Clone(way))
			} else if !slices.Contains(way, to) {
				goOn(append(way, to))
			}
		}
	}
	goOn([]int{begin})
	return circles
}

// ahead orders circles as the document does: by length, then by the first place at which they differ.
func ahead(a, b []int) int {
	if len(a) != len(b) {
		return len(a) - len(b)
	}
	return slices.Compare(a, b)
}

// stepping is a closed grammar of so many nonterminals, of which each one i steps to those whose bits the number has from bit i * nons on.
func stepping(nons, number int) api.Grammar {
	g := api.Grammar{Terms: []api.Term{{}, {Name: "x"}}, Nons: []string{""}, Start: 3, Prods: []api.Prod{{Left: 2, Right: []int{3}}}}
	for i := range nons {
		g.Nons = append(g.Nons, "n"+strconv.Itoa(i))
		g.Prods = append(g.Prods, api.Prod{Left: 3 + i, Right: []int{1}})
	}
	for bit := nons*nons - 1; bit >= 0; bit-- {
		if number>>bit&1 == 1 {
			g.Prods = append(g.Prods, api.Prod{Left: 3 + bit/nons, Right: []int{3 + bit%nons}})
		}
	}
	return g
}

// wantByCircles wants what all circles say, gone one by one.
func wantByCircles(t *testing.T, g api.Grammar) {
	t.Helper()
	steps := saidSteps(g)
	var on, find []int
	for i := range g.Nons {
		circles := circlesFrom(steps, len(g.Terms), len(g.Terms)+i)
		if len(circles) > 0 {
			on = append(on, len(g.Terms)+i)
		}
		if len(circles) > 0 && len(on) == 1 {
			find = slices.MinFunc(circles, ahead)
		}
	}
	wantAll(t, g, steps, on, find)
}

func TestAllStepsOfThree(t *testing.T) {
	for nons := 1; nons <= 3; nons++ {
		for number := range 1 << (nons * nons) {
			wantByCircles(t, stepping(nons, number))
		}
	}
}

// Of four to six nonterminals some.
func TestManyStepsGoneOneByOne(t *testing.T) {
	for seed := range uint64(6000) {
		r := source(seed)
		nons := 4 + r(3)
		number := 0
		for bit := range nons * nons {
			if r(2+int(seed%3)) == 0 {
				number |= 1 << bit
			}
		}
		wantByCircles(t, stepping(nons, number))
	}
}

// rowsOf are the rows of at most two symbols below n, the end marker and the added one not.
func rowsOf(n, added int) [][]int {
	rows := [][]int{nil}
	for a := 1; a < n; a++ {
		if a == added {
			continue
		}
		rows = append(rows, []int{a})
		for b := 1; b < n; b++ {
			if b != added {
				rows = append(rows, []int{a, b})
			}
		}
	}
	return rows
}

// smallGrammars are all closed grammars of one terminal, with productions of these nonterminals (by their numbers among these) and at most two symbols.
func smallGrammars(each func(g api.Grammar), lefts ...int) {
	g := api.Grammar{Terms: []api.Term{{}, {Name: "x"}}, Nons: []string{""}, Start: 3, Prods: make([]api.Prod, 1+len(lefts))}
	g.Prods[0] = api.Prod{Left: 2, Right: []int{3}}
	for i := range slices.Max(lefts) + 1 {
		g.Nons = append(g.Nons, "n"+strconv.Itoa(i))
	}
	rows := rowsOf(2+len(g.Nons), 2)
	var fill func(i int)
	fill = func(i int) {
		if i == len(lefts) {
			each(g)
			return
		}
		for _, row := range rows {
			g.Prods[1+i] = api.Prod{Left: 3 + lefts[i], Right: row}
			fill(i + 1)
		}
	}
	fill(0)
}

// derivesItself tells whether a nonterminal comes back to itself by rows of at most so many symbols, derived in one step or more.
func derivesItself(g api.Grammar, sym, length int) bool {
	alone := string([]byte{byte(sym)})
	rows := []string{alone}
	seen := map[string]bool{}
	for i := 0; i < len(rows); i++ {
		for at := range len(rows[i]) {
			for _, p := range g.Prods {
				if p.Left != int(rows[i][at]) || len(rows[i])-1+len(p.Right) > length {
					continue
				}
				next := []byte(rows[i][:at])
				for _, sym := range p.Right {
					next = append(next, byte(sym))
				}
				row := string(next) + rows[i][at+1:]
				if !seen[row] {
					seen[row] = true
					rows = append(rows, row)
				}
			}
		}
	}
	return seen[alone]
}

// Who derives itself in one step or more is on a circle, and nobody else. Of two nonterminals rows of four symbols are enough: each step leaves one beside the one that goes on, which vanishes by a tree that takes no nonterminal twice on one way down.
func TestSmallGrammars(t *testing.T) {
	count := 0
	check := func(g api.Grammar) {
		count++
		var want []int
		for i := range g.Nons {
			if sym := len(g.Terms) + i; derivesItself(g, sym, 4) {
				want = append(want, sym)
			}
		}
		if on, err := cycle.On(g); err != api.OK || !slices.Equal(on, want) {
			t.Errorf("On(%v) is %v, %d; want %v", g, on, err, want)
		}
		wantAsSaid(t, g)
	}
	for _, lefts := range [][]int{{0}, {0, 0}, {0, 1}, {0, 0, 1}, {1, 0, 1}, {0, 1, 1}} {
		smallGrammars(check, lefts...)
	}
	if count != 7+49+169+3*2197 {
		t.Errorf("%d small grammars", count)
	}
}

func TestSmallGrammarsOfThree(t *testing.T) {
	smallGrammars(func(g api.Grammar) { wantAsSaid(t, g) }, 2, 0, 1)
}

// P8.3

// told is what the calls tell, if they have no error.
func told(t *testing.T, g api.Grammar) (steps [][]int, on, find []int) {
	t.Helper()
	steps, errSteps := cycle.Steps(g)
	on, errOn := cycle.On(g)
	find, errFind := cycle.Find(g)
	if errSteps != api.OK || errOn != api.OK || errFind != api.OK {
		t.Errorf("the calls of %v answer %d, %d, %d", g, errSteps, errOn, errFind)
	}
	return steps, on, find
}

// isCircle tells whether a row is a circle by these steps.
func isCircle(g api.Grammar, steps [][]int, row []int) bool {
	for i, sym := range row {
		if slices.Contains(row[:i], sym) || !slices.Contains(steps[sym-len(g.Terms)], row[(i+1)%len(row)]) {
			return false
		}
	}
	return len(row) > 0
}

func isRising(list []int) bool {
	for i, n := range list[min(1, len(list)):] {
		if n <= list[i] {
			return false
		}
	}
	return true
}

// isWithin tells whether all of one list are in another one.
func isWithin(list, in []int) bool {
	return !slices.ContainsFunc(list, func(n int) bool { return !slices.Contains(in, n) })
}

func TestWhatIsFoundIsACircle(t *testing.T) {
	manyGrammars(t, 3000, func(r func(int) int, g api.Grammar) {
		steps, on, find := told(t, g)
		if len(steps) != len(g.Nons) || !isRising(on) {
			t.Errorf("Steps(%v) is %v, On %v", g, steps, on)
			return
		}
		for _, to := range steps {
			if !isRising(to) || slices.ContainsFunc(to, func(sym int) bool { return sym <= len(g.Terms) }) {
				t.Errorf("Steps(%v) is %v", g, steps)
			}
		}
		if (len(on) == 0) != (len(find) == 0) {
			t.Errorf("On(%v) is %v, but Find is %v", g, on, find)
		}
		if len(find) > 0 && (!isCircle(g, steps, find) || find[0] != on[0] || !isWithin(find, on)) {
			t.Errorf("Find(%v) is %v, which is no circle by %v, or not from %v", g, find, steps, on)
		}
		for _, sym := range on {
			if !slices.ContainsFunc(steps[sym-len(g.Terms)], func(to int) bool { return slices.Contains(on, to) }) {
				t.Errorf("%d of On(%v) %v steps to nobody there: %v", sym, g, on, steps)
			}
		}
	})
}

func TestMoreProductionsLoseNoCircle(t *testing.T) {
	grown := 0
	manyGrammars(t, 3000, func(r func(int) int, g api.Grammar) {
		steps, on, find := told(t, g)
		more := gram.Copy(g)
		for range 1 + r(4) {
			if len(more.Prods) > api.MaxProds {
				break
			}
			more.Prods = append(more.Prods, api.Prod{Left: len(g.Terms) + 1 + r(len(g.Nons)-1), Right: someRow(r, g, 3)})
		}
		shuffle(r, more.Prods[1:])
		moreSteps, moreOn, moreFind := told(t, more)
		for i, to := range steps {
			if !isWithin(to, moreSteps[i]) {
				t.Errorf("Steps(%v) is %v, with productions more %v", g, steps, moreSteps)
			}
		}
		if !isWithin(on, moreOn) || len(find) > 0 && (!isCircle(g, moreSteps, find) || moreFind[0] > find[0]) {
			t.Errorf("On(%v) is %v, with productions more %v; Find %v, and %v", g, on, moreOn, find, moreFind)
		}
		if len(moreOn) > len(on) {
			grown++
		}
	})
	if grown < 500 {
		t.Errorf("only %d grammars have more on circles by productions more", grown)
	}
}

// R4

// What is answered does not hang on the order in which productions stand, nor on the order of a row.
func TestTheOrderOfProductionsIsNothingToCircles(t *testing.T) {
	manyGrammars(t, 1000, func(r func(int) int, g api.Grammar) {
		steps, on, find := told(t, g)
		shuffle(r, g.Prods[1:])
		for _, p := range g.Prods {
			slices.Reverse(p.Right)
		}
		wantAll(t, g, steps, on, find)
	})
}
