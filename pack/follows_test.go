package pack_test

import (
	"slices"
	"strconv"
	"testing"

	"presage/api"
	"presage/pack"
	"presage/reach"
	"presage/resolve"
	"presage/spec"
)

// source gives numbers below n that hang on the seed alone.
func source(seed uint64) func(n int) int {
	state := seed*2 + 1
	return func(n int) int {
		state = state*6364136223846793005 + 1442695040888963407
		return int(state>>33) % n
	}
}

// someRows are rows of at most so many edges each, of places below a bound, in any order.
func someRows(r func(n int) int, count, length, bound int) [][]api.Edge {
	list := make([][]api.Edge, count)
	for i := range list {
		used := map[int]bool{}
		for range r(length + 1) {
			if place := r(bound); !used[place] {
				used[place] = true
				list[i] = append(list[i], api.Edge{Sym: place, To: r(2000) - 1000})
			}
		}
	}
	return list
}

// manyRows are lists of rows: few and many, narrow and wide, thick and thin.
func manyRows(count uint64, each func(list [][]api.Edge)) {
	for seed := range count {
		r := source(seed)
		bound := []int{1, 2, 3, 5, 8, 13, 65, 256}[r(8)]
		length := 1 + r(min(2*bound, 30))
		rowCount := r(12)
		if seed%20 == 0 {
			rowCount = 50 + r(207)
		}
		each(someRows(r, rowCount, length, bound))
	}
}

// allRows are all lists of so many rows of places below a bound: the values tell row and place.
func allRows(count, bound int, each func(list [][]api.Edge)) {
	for which := range 1 << (count * bound) {
		list := make([][]api.Edge, count)
		for bit := range count * bound {
			if which>>bit&1 == 1 {
				row, place := bit/bound, bit%bound
				list[row] = append(list[row], api.Edge{Sym: place, To: 10*row + place})
			}
		}
		each(list)
	}
}

// P16.1, said a second time

// owner is whose a place is, and what stands there.
type owner struct{ row, value int }

// saidRows are laid rows as the document tells them.
func saidRows(list [][]api.Edge) string {
	bases := make([]int, len(list))
	places := map[int]owner{}
	last := -1
	for length := api.MaxStates; length > 0; length-- {
		for number, row := range list {
			if len(row) == length {
				bases[number] = saidBase(places, row)
				for _, edge := range row {
					places[bases[number]+edge.Sym] = owner{number, edge.To}
					last = max(last, bases[number]+edge.Sym)
				}
			}
		}
	}
	var values, owners []int
	for at := range last + 1 {
		one, is := places[at]
		if !is {
			one = owner{-1, 0}
		}
		values, owners = append(values, one.value), append(owners, one.row)
	}
	return told(bases) + "|" + told(values) + "|" + told(owners)
}

// saidBase is the least base at which nobody owns any of a row's places.
func saidBase(places map[int]owner, row []api.Edge) int {
	for base := 0; ; base++ {
		isOwned := func(edge api.Edge) bool {
			_, is := places[base+edge.Sym]
			return is
		}
		if !slices.ContainsFunc(row, isOwned) {
			return base
		}
	}
}

func TestManyRows(t *testing.T) {
	count := 0
	manyRows(3000, func(list [][]api.Edge) {
		count += len(list)
		wantLaid(t, list, saidRows(list))
	})
	if count < 30000 {
		t.Errorf("%d rows were laid", count)
	}
}

func TestAllSmallRows(t *testing.T) {
	asSaid := func(list [][]api.Edge) { wantLaid(t, list, saidRows(list)) }
	allRows(4, 3, asSaid)
	allRows(3, 4, asSaid)
	allRows(2, 6, asSaid)
	allRows(5, 2, asSaid)
}

// P16.5: of rows

// valueAt is what rows have at a place.
func valueAt(list [][]api.Edge, row, place int) (int, bool) {
	if row >= 0 && row < len(list) {
		for _, edge := range list[row] {
			if edge.Sym == place {
				return edge.To, true
			}
		}
	}
	return 0, false
}

// wantAllRead wants that At tells each edge of rows, and nothing else. Behind rows that were told wrongly it asks no more: one fault would tell very much.
func wantAllRead(t *testing.T, list [][]api.Edge) (edges int) {
	t.Helper()
	if t.Failed() {
		return 0
	}
	r, err := pack.Lay(list...)
	if err != api.OK {
		t.Fatalf("Lay(%v) answers %d", list, err)
	}
	for row := -2; row < len(list)+2; row++ {
		for place := -2; place < len(r.Values)+2; place++ {
			want, is := valueAt(list, row, place)
			if is {
				edges++
			}
			if got, told := pack.At(r, row, place); got != want || told != is {
				t.Errorf("At(%s, %d, %d) is %d, %v; want %d, %v", toldRows(r), row, place, got, told, want, is)
			}
		}
	}
	return edges
}

func TestAtTellsJustTheEdges(t *testing.T) {
	edges := 0
	manyRows(1000, func(list [][]api.Edge) { edges += wantAllRead(t, list) })
	if edges < 30000 {
		t.Errorf("%d edges were told", edges)
	}
	allRows(3, 3, func(list [][]api.Edge) { wantAllRead(t, list) })
}

// P16.3, said a second time

// saidMost is of numbers the one that stands there most often, of several the least; none is -1.
func saidMost(numbers []int) int {
	most, times := -1, 0
	for candidate := range api.MaxStates {
		count := 0
		for _, n := range numbers {
			if n == candidate {
				count++
			}
		}
		if count > times {
			most, times = candidate, count
		}
	}
	return most
}

// saidCode is an action's code in the document's list.
func saidCode(one api.Action) int {
	switch one.Kind {
	case api.Shift:
		return 1 + one.To
	case api.Reduce:
		return -1 - one.To
	case api.Accept:
		return -1
	}
	return 0
}

// saidPacked is a packed table as the document tells it.
func saidPacked(d api.Dense) string {
	var defaults, targets []int
	var ofStates, ofNons [][]api.Edge
	for _, list := range d.Actions {
		var prods []int
		for _, one := range list {
			if one.Kind == api.Reduce {
				prods = append(prods, one.To)
			}
		}
		most := saidMost(prods)
		var row []api.Edge
		for term, one := range list {
			if one != (api.Action{}) && one != reduce(most) {
				row = append(row, api.Edge{Sym: term, To: saidCode(one)})
			}
		}
		defaults, ofStates = append(defaults, most), append(ofStates, row)
	}
	for non := range d.Gotos[0] {
		var states []int
		for _, list := range d.Gotos {
			states = append(states, list[non])
		}
		most := saidMost(states)
		var row []api.Edge
		for state, to := range states {
			if to != -1 && to != most {
				row = append(row, api.Edge{Sym: state, To: to})
			}
		}
		targets, ofNons = append(targets, most), append(ofNons, row)
	}
	return told(defaults) + "; " + saidRows(ofStates) + "; " + told(targets) + "; " + saidRows(ofNons)
}

// someAction is one that may stand in a table of so many states, of few productions.
func someAction(r func(n int) int, states, prods int) api.Action {
	switch r(6) {
	case 0:
		return shift(r(states))
	case 1, 2:
		return reduce(1 + r(prods))
	case 3:
		return api.Action{Kind: api.Accept + r(2)}
	}
	return api.Action{}
}

// someTable is one of so many states, terminals and nonterminals.
func someTable(r func(n int) int, states, terms, nons int) api.Dense {
	var d api.Dense
	prods, targets := 1+r(5), 1+r(states)
	if r(10) == 0 {
		prods = api.MaxProds
	}
	for range states {
		var actions []api.Action
		for range terms {
			actions = append(actions, someAction(r, states, prods))
		}
		var gotos []int
		for range nons {
			gotos = append(gotos, max(-1, r(2*targets)-targets))
		}
		d.Actions, d.Gotos = append(d.Actions, actions), append(d.Gotos, gotos)
	}
	return d
}

func manyTables(count uint64, each func(d api.Dense)) {
	for seed := range count {
		r := source(seed)
		states, terms, nons := 1+r(8), 1+r(8), 1+r(5)
		if seed%50 == 0 {
			states, terms, nons = 1+r(256), 1+r(65), 1+r(65)
		}
		each(someTable(r, states, terms, nons))
	}
}

// allTables are all of two states, with so many terminals and nonterminals.
func allTables(terms, nons int, each func(d api.Dense)) {
	actions := []api.Action{{}, shift(0), shift(1), reduce(1), reduce(2), {Kind: api.Accept}, {Kind: api.Refuse}}
	count := 1
	for range 2 * terms {
		count *= len(actions)
	}
	for range 2 * nons {
		count *= 3
	}
	for which := range count {
		next := func(n int) int {
			defer func() { which /= n }()
			return which % n
		}
		var d api.Dense
		for range 2 {
			var list []api.Action
			for range terms {
				list = append(list, actions[next(len(actions))])
			}
			var states []int
			for range nons {
				states = append(states, next(3)-1)
			}
			d.Actions, d.Gotos = append(d.Actions, list), append(d.Gotos, states)
		}
		each(d)
	}
}

func TestManyTables(t *testing.T) {
	manyTables(2000, func(d api.Dense) { wantPacked(t, d, saidPacked(d)) })
}

func TestAllSmallTables(t *testing.T) {
	asSaid := func(d api.Dense) { wantPacked(t, d, saidPacked(d)) }
	allTables(1, 1, asSaid)
	allTables(2, 1, asSaid)
	allTables(1, 2, asSaid)
}

// P16.5: of tables

// reads are how often something was read of packed tables.
type reads struct{ actions, defaults, nothing, gotos, targets int }

// wantOfState wants of a state's actions what follows: what is None in the table is the state's reduction by default, if it has one.
func (n *reads) wantOfState(t *testing.T, p api.Packed, state int, list []api.Action) {
	t.Helper()
	var prods []int
	for _, one := range list {
		if one.Kind == api.Reduce {
			prods = append(prods, one.To)
		}
	}
	byDefault := api.Action{}
	if most := saidMost(prods); most > 0 {
		byDefault = reduce(most)
	}
	for term, want := range list {
		switch {
		case want.Kind != api.None:
			n.actions++
		case byDefault.Kind == api.Reduce:
			n.defaults++
			want = byDefault
		default:
			n.nothing++
		}
		if got := pack.Action(p, state, term); got != want {
			t.Errorf("Action(%s, %d, %d) is %v; want %v", toldPacked(p), state, term, got, want)
		}
	}
	for _, term := range []int{-2, -1, len(list), len(list) + 1, 1000} {
		if got := pack.Action(p, state, term); got != byDefault {
			t.Errorf("Action(%s, %d, %d) is %v; want %v", toldPacked(p), state, term, got, byDefault)
		}
	}
}

// wantAll wants what follows of all states of a table, if no table ahead of it was told wrongly.
func (n *reads) wantAll(t *testing.T, d api.Dense) {
	t.Helper()
	if t.Failed() {
		return
	}
	p, err := pack.Pack(d)
	if err != api.OK {
		t.Fatalf("Pack(%v) answers %d", d, err)
	}
	for state, list := range d.Actions {
		n.wantOfState(t, p, state, list)
	}
	for state, list := range d.Gotos {
		for non, want := range list {
			got := pack.Goto(p, state, non)
			if want == -1 {
				n.targets++
				want = p.Targets[non]
			} else {
				n.gotos++
			}
			if got != want {
				t.Errorf("Goto(%s, %d, %d) is %d; want %d", toldPacked(p), state, non, got, want)
			}
		}
	}
	for _, state := range []int{-2, -1, len(d.Actions), len(d.Actions) + 1} {
		wantAction(t, p, state, 0, ".")
		wantGoto(t, p, 0, len(d.Gotos[0])+max(state, 0), -1)
		wantGoto(t, p, 0, -1-max(state, 0), -1)
	}
}

func TestTablesAreTold(t *testing.T) {
	var n reads
	manyTables(2000, func(d api.Dense) { n.wantAll(t, d) })
	allTables(2, 1, func(d api.Dense) { n.wantAll(t, d) })
	if n.actions < 50000 || n.defaults < 20000 || n.nothing < 5000 || n.gotos < 50000 || n.targets < 20000 {
		t.Errorf("read was but %+v", n)
	}
}

// Tables of grammars, and what they are for.

// texts are grammars: with defaults and refusals, with productions without symbols, and with cells that are open.
var texts = []string{
	"%left '+'; %left '*'; e : e '+' e | e '*' e | '(' e ')' | n ;",
	"%nonassoc '<'; %left '+'; e : e '<' e | e '+' e | n ;",
	"e : e '+' t | t ; t : t '*' f | f ; f : '(' e ')' | n ;",
	"s : a 'b' ; a : ;",
	"s : a b c ; a : | 'x' ; b : | 'y' ; c : | 'z' s ;",
	"s : a 'x' | 'y' a 'z' | b 'z' | 'y' b 'x' ; a : 'w' ; b : 'w' ;",
	"e : e '+' e | e '*' e | n ;",
	"s : 'x' s | 'x' ;",
	"l : l ',' i | i ; i : n | n '=' l2 | ; l2 : '[' l ']' ;",
}

// ofText is a grammar's text, read and closed, and its table.
func ofText(t *testing.T, text string) (api.Grammar, api.Dense) {
	t.Helper()
	g, m := spec.Read(text)
	closed, err := reach.Reduce(g)
	if m.Code != api.OK || err != api.OK {
		t.Fatalf("%s is no grammar: %d, %d", text, m.Code, err)
	}
	s, err := resolve.Settle(closed)
	if err != api.OK {
		t.Fatalf("Settle of %s answers %d", text, err)
	}
	return closed, s.Dense
}

func TestTablesOfGrammars(t *testing.T) {
	var n reads
	for _, text := range texts {
		_, d := ofText(t, text)
		n.wantAll(t, d)
		wantPacked(t, d, saidPacked(d))
	}
	if n.actions < 150 || n.defaults < 50 || n.gotos < 30 {
		t.Errorf("read was but %+v", n)
	}
}

// verdict tells where a row of terminals is refused by what a table says, or that it is accepted.
func verdict(g api.Grammar, terms []int, actionOf func(state, term int) api.Action, gotoOf func(state, non int) int) string {
	states := []int{0}
	for at, steps := 0, 0; steps < 1000; steps++ {
		term := 0
		if at < len(terms) {
			term = terms[at]
		}
		switch action := actionOf(states[len(states)-1], term); action.Kind {
		case api.Shift:
			states = append(states, action.To)
			at++
		case api.Reduce:
			prod := g.Prods[action.To]
			states = states[:len(states)-len(prod.Right)]
			states = append(states, gotoOf(states[len(states)-1], prod.Left-len(g.Terms)))
		case api.Accept:
			return "accepted"
		default:
			return "refused at " + strconv.Itoa(at)
		}
	}
	return "without end"
}

// A run by the packed table ends as one by the dense table does: a reduction by default shifts nothing.
func TestRunsByBothTables(t *testing.T) {
	accepted, refused := 0, 0
	for _, text := range texts {
		g, d := ofText(t, text)
		p, _ := pack.Pack(d)
		rowsOfTerms := [][]int{nil}
		for i := 0; i < len(rowsOfTerms) && i < 3000; i++ {
			row := rowsOfTerms[i]
			want := verdict(g, row, func(state, term int) api.Action { return d.Actions[state][term] }, func(state, non int) int { return d.Gotos[state][non] })
			got := verdict(g, row, func(state, term int) api.Action { return pack.Action(p, state, term) }, func(state, non int) int { return pack.Goto(p, state, non) })
			if got != want {
				t.Errorf("%s: %v is %s by the packed table, %s by the dense one", text, row, got, want)
			}
			if want == "accepted" {
				accepted++
			} else {
				refused++
			}
			for term := 1; term < len(g.Terms) && len(row) < 8; term++ {
				rowsOfTerms = append(rowsOfTerms, append(slices.Clip(row), term))
			}
		}
	}
	if accepted < 200 || refused < 5000 {
		t.Errorf("%d rows were accepted, %d refused", accepted, refused)
	}
}

// R4

func TestAskedAgainItIsTheSame(t *testing.T) {
	manyTables(300, func(d api.Dense) {
		first, _ := pack.Pack(d)
		copied := api.Dense{}
		for state := range d.Actions {
			copied.Actions = append(copied.Actions, slices.Clone(d.Actions[state]))
			copied.Gotos = append(copied.Gotos, slices.Clone(d.Gotos[state]))
		}
		wantPacked(t, copied, toldPacked(first))
	})
	manyRows(300, func(list [][]api.Edge) {
		first, _ := pack.Lay(list...)
		// The order of a row's edges says nothing.
		var turned [][]api.Edge
		for _, row := range list {
			row = slices.Clone(row)
			slices.Reverse(row)
			turned = append(turned, row)
		}
		wantLaid(t, turned, toldRows(first))
	})
}
