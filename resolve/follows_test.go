package resolve_test

import (
	"slices"
	"strconv"
	"strings"
	"testing"

	"presage/api"
	"presage/gram"
	"presage/lr0"
	"presage/reach"
	"presage/resolve"
	"presage/show"
	"presage/table"
)

// source gives numbers below n that hang on the seed alone.
func source(seed uint64) func(n int) int {
	state := seed*2 + 1
	return func(n int) int {
		state = state*6364136223846793005 + 1442695040888963407
		return int(state>>33) % n
	}
}

// someGrammar is a closed grammar of few symbols, so that it mostly clashes, with levels; false: its start symbol derives no row of terminals.
func someGrammar(r func(n int) int) (api.Grammar, bool) {
	b := gram.New()
	terms, nons := 1+r(5), 1+r(3)
	for i := range terms {
		b.Term("t" + strconv.Itoa(i))
	}
	for i := range nons {
		b.Non("n" + strconv.Itoa(i))
	}
	levels := 0
	for term := 1; term <= terms; term++ {
		if r(5) == 0 {
			continue
		}
		group := []int{term}
		if term < terms && r(3) == 0 {
			term++
			group = append(group, term)
		}
		levels, _ = b.Level(1+r(3), group...)
	}
	for i := range nons + r(8) {
		var right []int
		for range r(5) {
			if r(2) == 0 {
				right = append(right, -1-r(nons))
			} else {
				right = append(right, 1+r(terms))
			}
		}
		prod, _ := b.Rule(-1-i%nons, right...)
		if r(3) == 0 {
			b.Grade(r(levels+1), prod)
		}
	}
	b.Start(-1 - r(nons))
	g, _ := b.Grammar()
	c, err := reach.Reduce(g)
	return c, err == api.OK
}

// manyGrammars are about so many of these, of at most MaxStates states.
func manyGrammars(count uint64, each func(g api.Grammar)) {
	for seed := range 2 * count {
		if g, ok := someGrammar(source(seed)); ok {
			if _, err := lr0.Build(g); err == api.OK {
				each(g)
			}
		}
	}
}

// P15.3 and P15.4, said a second time

// saidConflicts are the open cells that the document tells, and the actions that it has taken, by state and terminal.
func saidConflicts(g api.Grammar) (actions [][]api.Action, conflicts []api.Cell) {
	a, _ := lr0.Build(g)
	for range a.States {
		actions = append(actions, make([]api.Action, len(g.Terms)))
	}
	cells, _ := table.Merged(g)
	for _, c := range cells {
		taken, open := saidOfCell(g, c.Term, c.Actions)
		actions[c.State][c.Term] = taken
		if open != nil {
			conflicts = append(conflicts, api.Cell{State: c.State, Term: c.Term, Actions: open})
		}
	}
	return actions, conflicts
}

// saidGotos are of each state, nonterminal by nonterminal, the states to which an edge leads.
func saidGotos(g api.Grammar) (gotos [][]int) {
	a, _ := lr0.Build(g)
	for _, state := range a.States {
		var row []int
		for non := range g.Nons {
			to := -1
			for _, edge := range state.Edges {
				if edge.Sym == len(g.Terms)+non {
					to = edge.To
				}
			}
			row = append(row, to)
		}
		gotos = append(gotos, row)
	}
	return gotos
}

// saidReport is the text that the document tells of open cells.
func saidReport(g api.Grammar, conflicts []api.Cell) string {
	a, _ := lr0.Build(g)
	var lines []string
	for _, c := range conflicts {
		symbol, _ := show.Symbol(g, c.Term)
		var names []string
		for _, action := range c.Actions {
			prod, _ := show.Prod(g, action.To)
			names = append(names, map[int]string{api.Shift: "shift", api.Accept: "accept", api.Reduce: "reduce " + prod}[action.Kind])
		}
		lines = append(lines, "state "+strconv.Itoa(c.State)+" at "+symbol+": "+strings.Join(names, ", "))
		closure, _ := lr0.Closure(g, a.States[c.State].Kernel...)
		lines = append(lines, saidItems(g, c, closure)...)
	}
	return strings.Join(append(lines, ""), "\n")
}

// saidItems are the lines of an open cell's items: of each item of the closure it is asked whether an action means it.
func saidItems(g api.Grammar, c api.Cell, closure []api.Item) []string {
	var ahead, completed []string
	for _, item := range closure {
		line, _ := show.Item(g, item)
		right := g.Prods[item.Prod].Right
		for _, action := range c.Actions {
			if action.Kind == api.Shift && item.Dot < len(right) && right[item.Dot] == c.Term {
				ahead = append(ahead, "  "+line)
			}
			if action.Kind != api.Shift && item.Dot == len(right) && item.Prod == action.To {
				completed = append(completed, "  "+line)
			}
		}
	}
	return append(ahead, completed...)
}

// wantAsSaid wants of a grammar what the document tells.
func wantAsSaid(t *testing.T, g api.Grammar) {
	t.Helper()
	actions, conflicts := saidConflicts(g)
	wantSettled(t, g, toldDense(api.Dense{Actions: actions, Gotos: saidGotos(g)}), toldCells(conflicts))
	want := saidReport(g, conflicts)
	if got, err := resolve.Report(g); err != api.OK || got != want {
		t.Errorf("Report(%v) is %q, %d; want %q", g, got, err, want)
	}
}

func TestManyGrammars(t *testing.T) {
	count := 0
	manyGrammars(2000, func(g api.Grammar) {
		count++
		wantAsSaid(t, g)
	})
	if count < 2000 {
		t.Errorf("%d grammars were looked at", count)
	}
}

// All levels and sides, with two operators, and a production with another terminal's level.
func TestAllLevelsOfASmallGrammar(t *testing.T) {
	g := read(t, "%token x y z; e : e 'x' e | e 'y' e | 'y' e | 'z' ;")
	var count, open int
	for number := range 4 * 4 * 4 * 4 * 27 {
		g := gram.Copy(g)
		g.Terms[1].Level, g.Terms[2].Level = number%4, number/4%4
		g.Prods[1].Level, g.Prods[3].Level = number/16%4, number/64%4
		g.Prods[2].Level = g.Terms[2].Level
		sides := number / 256
		g.Terms[3].Level = 3
		g.Levels = []int{1 + sides%3, 1 + sides/3%3, 1 + sides/9}
		if !gram.Closed(g) {
			continue
		}
		count++
		wantAsSaid(t, g)
		if got, _ := resolve.Settle(g); len(got.Conflicts) > 0 {
			open++
		}
	}
	// Levels 1 and 2 must be those of x and y, each of one.
	if count != 2*4*4*27 || open < 200 || open > count-200 {
		t.Errorf("%d grammars were looked at, %d of them have open cells", count, open)
	}
}

// P15.5

// follows are how often something was found in settled tables.
type follows struct{ alone, refused, settled, open, withoutShift, acceptOpen int }

// wantOfCell wants of a cell of the merged table, and of what is in its place, what follows.
func (f *follows) wantOfCell(t *testing.T, g api.Grammar, c api.Cell, taken api.Action, open []api.Action) {
	t.Helper()
	hasShift := c.Actions[0].Kind == api.Shift
	switch {
	case taken == api.Action{Kind: api.Refuse}:
		f.refused++
		if !hasShift || len(c.Actions) < 2 || len(open) > 0 {
			t.Errorf("%v refuses where the actions are %s", g, told(c.Actions...))
		}
	case !slices.Contains(c.Actions, taken):
		t.Errorf("%v has %s in the place of %s", g, told(taken), told(c.Actions...))
	case len(c.Actions) == 1:
		f.alone++
	case len(open) == 0:
		f.settled++
	}
	if len(open) == 0 {
		return
	}
	f.open++
	if hasShift && open[0].Kind != api.Shift {
		f.withoutShift++
	}
	if open[0].Kind == api.Accept {
		f.acceptOpen++
	}
	if len(open) < 2 || open[0] != taken || !isPart(open, c.Actions) {
		t.Errorf("%v has %s, open %s, in the place of %s", g, told(taken), told(open...), told(c.Actions...))
	}
}

// isPart tells whether a list is what is left of another one, in its order.
func isPart(part, whole []api.Action) bool {
	for _, action := range whole {
		if len(part) > 0 && part[0] == action {
			part = part[1:]
		}
	}
	return len(part) == 0
}

// byPlace are cells by their states and terminals.
func byPlace(list []api.Cell) map[[2]int][]api.Action {
	places := map[[2]int][]api.Action{}
	for _, c := range list {
		places[[2]int{c.State, c.Term}] = c.Actions
	}
	return places
}

func TestWhatFollows(t *testing.T) {
	var f follows
	manyGrammars(2000, func(g api.Grammar) {
		merged, _ := table.Merged(g)
		s, _ := resolve.Settle(g)
		cells, open := byPlace(merged), byPlace(s.Conflicts)
		if !slices.IsSortedFunc(s.Conflicts, func(a, b api.Cell) int { return slices.Compare([]int{a.State, a.Term}, []int{b.State, b.Term}) }) {
			t.Errorf("%v has the open cells %s", g, toldCells(s.Conflicts))
		}
		for state, row := range s.Dense.Actions {
			for term, taken := range row {
				at := [2]int{state, term}
				if len(cells[at]) > 0 {
					f.wantOfCell(t, g, api.Cell{State: state, Term: term, Actions: cells[at]}, taken, open[at])
				} else if taken != (api.Action{}) || len(open[at]) > 0 {
					t.Errorf("%v has %s, open %s, where there are no actions", g, told(taken), told(open[at]...))
				}
			}
		}
	})
	if f.alone < 5000 || f.refused < 200 || f.settled < 1000 || f.open < 1000 || f.withoutShift < 20 || f.acceptOpen < 50 {
		t.Errorf("found is but %+v", f)
	}
}

// Without levels every clash is open, and the first action of each is taken; so it is with levels that no production, or no terminal of theirs, has.
func TestWithoutLevels(t *testing.T) {
	clashing := 0
	manyGrammars(1000, func(g api.Grammar) {
		clashes, _ := table.Clashes(g)
		merged, _ := table.Merged(g)
		wantOpen := func(g api.Grammar) {
			s, _ := resolve.Settle(g)
			if toldCells(s.Conflicts) != toldCells(clashes) {
				t.Errorf("%v leaves %s open, the clashes are %s", g, toldCells(s.Conflicts), toldCells(clashes))
			}
			for _, c := range merged {
				if s.Dense.Actions[c.State][c.Term] != c.Actions[0] {
					t.Errorf("%v has %s in the place of %s", g, told(s.Dense.Actions[c.State][c.Term]), told(c.Actions...))
				}
			}
		}
		g = gram.Copy(g)
		for i := range g.Prods {
			g.Prods[i].Level = 0
		}
		wantOpen(g)
		for i := range g.Terms {
			g.Terms[i].Level = 0
		}
		g.Levels = nil
		wantOpen(g)
		if len(clashes) > 0 {
			clashing++
		}
	})
	if clashing < 500 {
		t.Errorf("%d grammars clash", clashing)
	}
}

// What levels are for: rows are grouped by them.

// grouped is what a run by a settled table makes of a row of terminals' texts, with brackets around what comes of one production with two symbols or more; or where it is refused.
func grouped(t *testing.T, g api.Grammar, d api.Dense, row string) string {
	t.Helper()
	words := strings.Fields(row)
	states, texts := []int{0}, []string{}
	for at := 0; len(states) < 100; {
		term := 0
		if at < len(words) {
			term = slices.IndexFunc(g.Terms, func(one api.Term) bool { return one.Name == words[at] })
		}
		switch action := d.Actions[states[len(states)-1]][term]; action.Kind {
		case api.Shift:
			states, texts = append(states, action.To), append(texts, words[at])
			at++
		case api.Reduce:
			p := g.Prods[action.To]
			states = states[:len(states)-len(p.Right)]
			text := strings.Join(texts[len(texts)-len(p.Right):], "")
			if len(p.Right) > 1 {
				text = "(" + text + ")"
			}
			texts = append(texts[:len(texts)-len(p.Right)], text)
			states = append(states, d.Gotos[states[len(states)-1]][p.Left-len(g.Terms)])
		case api.Accept:
			return texts[0]
		default:
			return "refused at " + strconv.Itoa(at)
		}
	}
	t.Errorf("%v: %q has no end", g, row)
	return ""
}

func wantGrouped(t *testing.T, text, row, want string) {
	t.Helper()
	g := read(t, text)
	s, err := resolve.Settle(g)
	if err != api.OK {
		t.Fatalf("Settle of %s answers %d", text, err)
	}
	if got := grouped(t, g, s.Dense, row); got != want {
		t.Errorf("%s makes %s of %s, want %s", text, got, row, want)
	}
}

func TestHowRowsAreGrouped(t *testing.T) {
	const settledSums = "%left '+'; %left '*'; " + manySided
	wantGrouped(t, settledSums, "n + n * n", "(n+(n*n))")
	wantGrouped(t, settledSums, "n * n + n", "((n*n)+n)")
	wantGrouped(t, settledSums, "n + n + n", "((n+n)+n)")
	// Where nothing is settled the shift is taken.
	wantGrouped(t, manySided, "n + n + n", "(n+(n+n))")
	wantGrouped(t, manySided, "n * n + n", "(n*(n+n))")
	const less = "%nonassoc '<'; e : e '<' e | n ;"
	wantGrouped(t, less, "n < n", "(n<n)")
	wantGrouped(t, less, "n < n < n", "refused at 3")
	wantGrouped(t, operators, "n < n + n * n < n", "((n<n)+(n*(n<n)))")
	// Signs: %prec gives a production another level.
	const sums = "%left '-'; %left '*'; %right sign; "
	wantGrouped(t, sums+"e : e '-' e | e '*' e | '-' e %prec sign | n ;", "- n * n - - n", "(((-n)*n)-(-n))")
	wantGrouped(t, sums+"e : e '-' e | e '*' e | '-' e | n ;", "- n * n - - n", "((-(n*n))-(-n))")
	// The e goes with the nearest i; if i is above, it never comes at all.
	wantGrouped(t, "%left i; %left e; s : i s | i s e s | o ;", "i i o e o", "(i(ioeo))")
	wantGrouped(t, "%left e; %left i; s : i s | i s e s | o ;", "i i o e o", "refused at 3")
	wantGrouped(t, "s : i s | i s e s | o ;", "i i o e o", "(i(ioeo))")
}

// tree is one way to group a row of operators: its text, and the operator at its root; -1: there is none.
type tree struct {
	text string
	root int
}

// trees are all ways to group operators of these levels and sides such that nowhere one stands below another that binds as strongly, but for the level's side.
func trees(levels, sides, ops []int) []tree {
	if len(ops) == 0 {
		return []tree{{"n", -1}}
	}
	var all []tree
	for at, root := range ops {
		fits := func(one tree, side int) bool {
			return one.root == -1 || levels[one.root] > levels[root] || levels[one.root] == levels[root] && sides[levels[root]-1] == side
		}
		for _, left := range trees(levels, sides, ops[:at]) {
			for _, right := range trees(levels, sides, ops[at+1:]) {
				if fits(left, api.Left) && fits(right, api.Right) {
					all = append(all, tree{"(" + left.text + "o" + strconv.Itoa(root) + right.text + ")", root})
				}
			}
		}
	}
	return all
}

// eachRow hands out all rows of at most so many operators out of three.
func eachRow(length int, each func(ops []int)) {
	rows := [][]int{nil}
	for i := 0; i < len(rows); i++ {
		each(rows[i])
		for op := 0; op < 3 && len(rows[i]) < length; op++ {
			rows = append(rows, append(slices.Clip(rows[i]), op))
		}
	}
}

// wantAllGrouped wants of all rows of three operators of these levels and sides that they are grouped as these say, or refused, if they can't be.
func wantAllGrouped(t *testing.T, levels, sides []int) (refused int) {
	t.Helper()
	g := read(t, "%token o0 o1 o2; e : e o0 e | e o1 e | e o2 e | n ;")
	g.Levels = sides
	for op, level := range levels {
		g.Terms[1+op].Level, g.Prods[1+op].Level = level, level
	}
	s, err := resolve.Settle(g)
	if err != api.OK || len(s.Conflicts) > 0 {
		t.Fatalf("Settle(%v) leaves %s open, %d", g, toldCells(s.Conflicts), err)
	}
	eachRow(5, func(ops []int) {
		row := "n"
		for _, op := range ops {
			row += " o" + strconv.Itoa(op) + " n"
		}
		got, ways := grouped(t, g, s.Dense, row), trees(levels, sides, ops)
		switch {
		case len(ways) > 1:
			t.Errorf("%v and %v group %s in %d ways", levels, sides, row, len(ways))
		case len(ways) == 1 && got != ways[0].text:
			t.Errorf("%v and %v make %s of %s, want %s", levels, sides, got, row, ways[0].text)
		case len(ways) == 0:
			refused++
			if !strings.HasPrefix(got, "refused") {
				t.Errorf("%v and %v make %s of %s", levels, sides, got, row)
			}
		}
	})
	return refused
}

// All levels of three operators, of all sides.
func TestAllLevelsOfThreeOperators(t *testing.T) {
	tables, refused := 0, 0
	for number := range 27 {
		levels := []int{1 + number%3, 1 + number/3%3, 1 + number/9}
		most := slices.Max(levels)
		for sides := range 27 {
			list := []int{1 + sides%3, 1 + sides/3%3, 1 + sides/9}
			isAsked := true
			for level := 1; level <= 3; level++ {
				// Each level must be one of some terminal; of those above the highest one there is but one list of sides.
				isAsked = isAsked && (level > most || slices.Contains(levels, level)) && (level <= most || list[level-1] == 1)
			}
			if isAsked {
				tables++
				refused += wantAllGrouped(t, levels, list[:most])
			}
		}
	}
	if tables != 1*3+6*9+6*27 || refused < 1000 {
		t.Errorf("%d tables were made, %d rows refused", tables, refused)
	}
}

// R4

func TestAskedAgainItIsTheSame(t *testing.T) {
	manyGrammars(200, func(g api.Grammar) {
		s, _ := resolve.Settle(g)
		text, _ := resolve.Report(g)
		wantSettled(t, gram.Copy(g), toldDense(s.Dense), toldCells(s.Conflicts))
		if again, err := resolve.Report(gram.Copy(g)); err != api.OK || again != text {
			t.Errorf("Report(%v) is %q, then %q", g, text, again)
		}
	})
}
