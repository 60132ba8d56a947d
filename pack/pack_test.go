package pack_test

import (
	"math"
	"slices"
	"strconv"
	"strings"
	"testing"

	"presage/api"
	"presage/pack"
)

// told are numbers as a text, with blanks between them.
func told(numbers []int) string {
	var words []string
	for _, n := range numbers {
		words = append(words, strconv.Itoa(n))
	}
	return strings.Join(words, " ")
}

// toldRows are laid rows as a text: bases, values, owners.
func toldRows(r api.Rows) string {
	return told(r.Bases) + "|" + told(r.Values) + "|" + told(r.Owners)
}

// toldPacked is a packed table as a text: its four parts.
func toldPacked(p api.Packed) string {
	return strings.Join([]string{told(p.Defaults), toldRows(p.Actions), told(p.Targets), toldRows(p.Gotos)}, "; ")
}

// number is that of a word.
func number(word string) int {
	n, err := strconv.Atoi(word)
	if err != nil {
		panic(err)
	}
	return n
}

// rows are those of a text: a / between two of them, each edge a place and its value.
func rows(text string) [][]api.Edge {
	var all [][]api.Edge
	for _, words := range strings.Split(text, "/") {
		var row []api.Edge
		for _, word := range strings.Fields(words) {
			place, value, _ := strings.Cut(word, ":")
			row = append(row, api.Edge{Sym: number(place), To: number(value)})
		}
		all = append(all, row)
	}
	return all
}

func shift(state int) api.Action { return api.Action{Kind: api.Shift, To: state} }

func reduce(prod int) api.Action { return api.Action{Kind: api.Reduce, To: prod} }

// action is that of a word: s and a state, r and a production, a, !, or a dot for none.
func action(word string) api.Action {
	switch word[0] {
	case 's':
		return shift(number(word[1:]))
	case 'r':
		return reduce(number(word[1:]))
	case 'a':
		return api.Action{Kind: api.Accept}
	case '!':
		return api.Action{Kind: api.Refuse}
	}
	return api.Action{}
}

// dense is a table of two texts: a / between two lists.
func dense(actions, gotos string) api.Dense {
	var d api.Dense
	for _, words := range strings.Split(actions, "/") {
		var list []api.Action
		for _, word := range strings.Fields(words) {
			list = append(list, action(word))
		}
		d.Actions = append(d.Actions, list)
	}
	for _, words := range strings.Split(gotos, "/") {
		var list []int
		for _, word := range strings.Fields(words) {
			list = append(list, number(word))
		}
		d.Gotos = append(d.Gotos, list)
	}
	return d
}

func wantLaid(t *testing.T, list [][]api.Edge, want string) {
	t.Helper()
	if got, err := pack.Lay(list...); err != api.OK || toldRows(got) != want {
		t.Errorf("Lay(%v) is %s, %d; want %s", list, toldRows(got), err, want)
	}
}

func wantNotLaid(t *testing.T, what string, list ...[]api.Edge) {
	t.Helper()
	if got, err := pack.Lay(list...); err != api.ErrArg || toldRows(got) != "||" {
		t.Errorf("Lay of %s is %s, %d; want ErrArg", what, toldRows(got), err)
	}
}

func wantAt(t *testing.T, r api.Rows, row, place, want int) {
	t.Helper()
	if got, is := pack.At(r, row, place); !is || got != want {
		t.Errorf("At(%s, %d, %d) is %d, %v; want %d", toldRows(r), row, place, got, is, want)
	}
}

func wantNotAt(t *testing.T, r api.Rows, row, place int) {
	t.Helper()
	if got, is := pack.At(r, row, place); is || got != 0 {
		t.Errorf("At(%s, %d, %d) is %d, %v; want nothing", toldRows(r), row, place, got, is)
	}
}

func wantPacked(t *testing.T, d api.Dense, want string) api.Packed {
	t.Helper()
	got, err := pack.Pack(d)
	if err != api.OK || toldPacked(got) != want {
		t.Errorf("Pack(%v) is %s, %d; want %s", d, toldPacked(got), err, want)
	}
	return got
}

func wantNotPacked(t *testing.T, what string, d api.Dense) {
	t.Helper()
	if got, err := pack.Pack(d); err != api.ErrArg || toldPacked(got) != "; ||; ; ||" {
		t.Errorf("Pack of %s is %s, %d; want ErrArg", what, toldPacked(got), err)
	}
}

func wantAction(t *testing.T, p api.Packed, state, term int, want string) {
	t.Helper()
	if got := pack.Action(p, state, term); got != action(want) {
		t.Errorf("Action(%s, %d, %d) is %v; want %s", toldPacked(p), state, term, got, want)
	}
}

func wantGoto(t *testing.T, p api.Packed, state, non, want int) {
	t.Helper()
	if got := pack.Goto(p, state, non); got != want {
		t.Errorf("Goto(%s, %d, %d) is %d; want %d", toldPacked(p), state, non, got, want)
	}
}

// odd are numbers at which something may wrap round, or be no place.
var odd = []int{math.MinInt, math.MinInt + 1, -1 << 32, math.MinInt32, -2, -1, math.MaxInt32, 1 << 32, 1<<32 + 1, math.MaxInt - 1, math.MaxInt}

// The chapter's examples.

func TestLayOfTheExample(t *testing.T) {
	list := rows("0:7 2:8//0:5 1:6 2:4/1:9")
	wantLaid(t, list, "3 0 0 3|5 6 4 7 9 8|2 2 2 0 3 0")
	r, _ := pack.Lay(list...)
	wantAt(t, r, 0, 2, 8)
	wantNotAt(t, r, 0, 1)
	wantNotAt(t, r, 1, 0)
	wantNotAt(t, r, 4, 0)
	wantNotAt(t, r, 0, -1)
}

func TestPackOfTheExample(t *testing.T) {
	p := wantPacked(t, dense("s1 . !/r2 r2 a", "1/-1"), "-1 2; 0 1|2 0 0 -1|0 -1 0 1; 1; 0||")
	wantAction(t, p, 1, 1, "r2")
	wantAction(t, p, 0, 1, ".")
	wantAction(t, p, 0, 2, "!")
	wantAction(t, p, 1, 2, "a")
	wantGoto(t, p, 0, 0, 1)
	wantGoto(t, p, 1, 0, 1)
}

// P16.1

func TestLay(t *testing.T) {
	for _, c := range []struct{ rows, want string }{
		{"", "0||"},
		{"//", "0 0 0||"},
		{"0:5", "0|5|0"},
		// A row begins at 0, wherever its first place is: what is ahead is nobody's.
		{"3:5", "0|0 0 0 5|-1 -1 -1 0"},
		// The order of a row's edges says nothing.
		{"2:8 0:7", "0|7 0 8|0 -1 0"},
		{"0:7 2:8", "0|7 0 8|0 -1 0"},
		// Of rows of as many edges the one of the lesser number goes first.
		{"0:1/0:2/0:3", "0 1 2|1 2 3|0 1 2"},
		{"1:1/0:2", "0 0|2 1|1 0"},
		{"1:1/1:2/0:3", "0 1 0|3 1 2|2 0 1"},
		// A row of more edges goes ahead.
		{"0:1/0:2 1:3", "2 0|2 3 1|1 1 0"},
		{"0:1/0:2/0:3 1:4/0:5 1:6", "4 5 0 2|3 4 5 6 1 2|2 2 3 3 0 1"},
		{"0:1/0:2 1:3/0:4 1:5 2:6", "5 3 0|4 5 6 2 3 1|2 2 2 1 1 0"},
		// More edges count, not more places.
		{"9:1/0:2 1:3", "0 0|2 3 0 0 0 0 0 0 0 1|1 1 -1 -1 -1 -1 -1 -1 -1 0"},
		// A hole is filled that is as wide as it must be, and no narrower one.
		{"0:1 2:2 3:3 6:4/0:5 1:6/0:7", "0 4 1|1 7 2 3 5 6 4|0 2 0 0 1 1 0"},
		{"0:1 2:2 5:3/0:4 2:5/0:6", "0 1 4|1 4 2 5 6 3|0 1 0 1 2 0"},
		{"0:1 2:2/0:3 2:4", "0 1|1 3 2 4|0 1 0 1"},
		// A base may lie ahead of the end though the row passes it.
		{"0:1 3:2 4:3/0:4 1:5 4:6", "0 1|1 4 5 2 3 6|0 1 1 0 0 1"},
		// The first place that is free is not enough: the last of the row's must be.
		{"0:1 1:2 3:3/0:4 1:5", "0 4|1 2 0 3 4 5|0 0 -1 0 1 1"},
		// A row's base is not that of its least place.
		{"0:1 1:2/1:3/1:4/5:5", "0 1 2 0|1 2 3 4 0 5|0 0 1 2 -1 3"},
		// Rows without edges have the base 0, and their places are counted.
		{"/0:1//0:2/", "0 0 0 1 0|1 2|1 3"},
		// The value 0 is one as any other; so are all others.
		{"0:0/0:0", "0 1|0 0|0 1"},
		{"0:-1/1:-2", "0 0|-1 -2|0 1"},
		{"0:9223372036854775807/0:-9223372036854775808", "0 1|9223372036854775807 -9223372036854775808|0 1"},
	} {
		wantLaid(t, rows(c.rows), c.want)
	}
	wantLaid(t, nil, "||")
	wantLaid(t, [][]api.Edge{}, "||")
	wantLaid(t, [][]api.Edge{nil, {}}, "0 0||")
}

// filled is a text of the same number again and again.
func filled(n, count int) []int {
	list := make([]int, count)
	for i := range list {
		list[i] = n
	}
	return list
}

// full is a row of all places from one on, up to another one that it has no more.
func full(from, to, value int) []api.Edge {
	var row []api.Edge
	for place := from; place < to; place++ {
		row = append(row, api.Edge{Sym: place, To: value})
	}
	return row
}

func TestTheMostRows(t *testing.T) {
	none := make([][]api.Edge, api.MaxStates)
	wantLaid(t, none, told(filled(0, 256))+"||")
	wantNotLaid(t, "257 rows", make([][]api.Edge, 257)...)
	none = append(none, []api.Edge{{Sym: 1}})
	wantNotLaid(t, "257 rows, one with an edge", none...)
	wantNotLaid(t, "very many rows", make([][]api.Edge, 1<<20)...)
	// All places of all rows.
	var list [][]api.Edge
	var bases, values, owners []int
	for i := range 256 {
		list = append(list, full(0, 256, 1000+i))
		bases = append(bases, 256*i)
		values = append(values, filled(1000+i, 256)...)
		owners = append(owners, filled(i, 256)...)
	}
	wantLaid(t, list, told(bases)+"|"+told(values)+"|"+told(owners))
	// One place of each: 255 rows are above a place that is nobody's, each one after the last.
	list, bases = nil, nil
	for i := range 256 {
		list = append(list, []api.Edge{{Sym: 255, To: -i}})
		bases = append(bases, i)
	}
	values, owners = filled(0, 255), filled(-1, 255)
	for i := range 256 {
		values, owners = append(values, -i), append(owners, i)
	}
	wantLaid(t, list, told(bases)+"|"+told(values)+"|"+told(owners))
	// Each row has one place more than the one before it: the last goes first.
	list, bases, values, owners = nil, filled(0, 256), nil, nil
	for i := range 256 {
		list = append(list, full(0, i, i))
	}
	for i := 255; i > 0; i-- {
		bases[i] = len(values)
		values, owners = append(values, filled(i, i)...), append(owners, filled(i, i)...)
	}
	wantLaid(t, list, told(bases)+"|"+told(values)+"|"+told(owners))
}

func TestNoRow(t *testing.T) {
	good := []api.Edge{{Sym: 0, To: 1}, {Sym: 255, To: 2}}
	wantLaid(t, [][]api.Edge{good[1:]}, "0|"+told(append(filled(0, 255), 2))+"|"+told(append(filled(-1, 255), 0)))
	wrong := append(slices.Clone(odd), 256, 257, 511, 1024)
	for _, place := range wrong {
		bad := []api.Edge{{Sym: place, To: 1}}
		what := "a place " + strconv.Itoa(place)
		wantNotLaid(t, what, bad)
		wantNotLaid(t, what+" behind others", append(slices.Clone(good), bad...))
		wantNotLaid(t, what+" ahead of others", append(bad, good...))
		for at := range 3 {
			list := [][]api.Edge{good, nil, good}
			list[at] = bad
			wantNotLaid(t, what+" in row "+strconv.Itoa(at), list...)
		}
	}
	for _, place := range []int{0, 1, 77, 254, 255} {
		what := "twice place " + strconv.Itoa(place)
		one, other := api.Edge{Sym: place, To: 1}, api.Edge{Sym: place, To: 2}
		wantNotLaid(t, what, []api.Edge{one, other})
		wantNotLaid(t, what+", alike", []api.Edge{one, one})
		wantNotLaid(t, what+", with another between", []api.Edge{one, {Sym: 100}, other})
		wantNotLaid(t, what+", in a later row", nil, good, []api.Edge{one, other})
		// Two rows may have one place.
		if r, err := pack.Lay([]api.Edge{one}, []api.Edge{other}); err != api.OK || told(r.Bases) != "0 1" {
			t.Errorf("two rows with place %d are laid as %s, %d", place, toldRows(r), err)
		}
	}
	wantNotLaid(t, "257 edges", append(full(0, 256, 1), api.Edge{Sym: 128, To: 1}))
	wantNotLaid(t, "very many edges", make([]api.Edge, 1<<20))
}

// P16.2

func TestAt(t *testing.T) {
	r := api.Rows{Bases: []int{1, 0, -1, 4, 3, 9}, Values: []int{10, 11, 12, 13, 14}, Owners: []int{1, 0, -1, 0, 4}}
	for row := -3; row < 9; row++ {
		for place := -3; place < 12; place++ {
			switch [2]int{row, place} {
			case [2]int{0, 0}:
				wantAt(t, r, row, place, 11)
			case [2]int{0, 2}:
				wantAt(t, r, row, place, 13)
			case [2]int{1, 0}:
				wantAt(t, r, row, place, 10)
			case [2]int{4, 1}:
				wantAt(t, r, row, place, 14)
			default:
				wantNotAt(t, r, row, place)
			}
		}
	}
}

// A base below 0 has no place, though that and a place together come to one that the row owns.
func TestAtOfNegativeNumbers(t *testing.T) {
	r := api.Rows{Bases: []int{-1, 2}, Values: []int{5, 6, 7}, Owners: []int{0, 0, 1}}
	for place := -5; place < 5; place++ {
		wantNotAt(t, r, 0, place)
	}
	r.Owners = []int{1, 1, 1}
	wantNotAt(t, r, 1, -1)
	wantNotAt(t, r, 1, -2)
	wantAt(t, r, 1, 0, 7)
	// Nobody's places are not those of the row -1.
	r = api.Rows{Bases: []int{0}, Values: []int{5}, Owners: []int{-1}}
	wantNotAt(t, r, -1, 0)
	wantNotAt(t, r, 0, 0)
}

// Both lists must have the place, whichever is the longer one.
func TestAtOfUnlikeLists(t *testing.T) {
	for lengths := range 25 {
		values, owners := lengths%5, lengths/5
		r := api.Rows{Bases: []int{1, 0}, Values: filled(8, values), Owners: filled(0, owners)}
		for place := range 8 {
			if place+1 < values && place+1 < owners {
				wantAt(t, r, 0, place, 8)
			} else {
				wantNotAt(t, r, 0, place)
			}
			wantNotAt(t, r, 1, place)
		}
	}
	for _, r := range []api.Rows{{}, {Bases: []int{0}}, {Values: []int{1}, Owners: []int{0}}, {Bases: []int{}, Values: []int{}, Owners: []int{}}} {
		wantNotAt(t, r, 0, 0)
	}
}

func TestAtOfOddNumbers(t *testing.T) {
	for _, one := range odd {
		r := api.Rows{Bases: []int{one, 0}, Values: []int{5, 6, one}, Owners: []int{0, 0, 1}}
		for _, place := range append([]int{0, 1, 2, 3, -one, -one + 1, -one - 1}, odd...) {
			wantNotAt(t, r, 0, place)
			wantNotAt(t, r, one, place)
			if place < 0 || place > 2 {
				wantNotAt(t, r, 1, place)
			}
		}
		wantAt(t, r, 1, 2, one)
		// An owner that is no row owns nothing.
		r = api.Rows{Bases: []int{0}, Values: []int{5}, Owners: []int{one}}
		wantNotAt(t, r, 0, 0)
		wantNotAt(t, r, one, 0)
	}
}

// P16.3

func TestPack(t *testing.T) {
	for _, c := range []struct{ actions, gotos, want string }{
		{".", "-1", "-1; 0||; -1; 0||"},
		{"s0", "0", "-1; 0|1|0; 0; 0||"},
		{"a", "-1", "-1; 0|-1|0; -1; 0||"},
		{"!", "-1", "-1; 0|0|0; -1; 0||"},
		{"r1", "-1", "1; 0||; -1; 0||"},
		{"r96", "-1", "96; 0||; -1; 0||"},
		{"r96 r96 r95", "-1", "96; 0|0 0 -96|-1 -1 0; -1; 0||"},
		// The production that most actions reduce by; of several the least, in whatever order they come.
		{"r1 r2 r2", "-1", "2; 0|-2|0; -1; 0||"},
		{"r2 r1 r2", "-1", "2; 0|0 -2|-1 0; -1; 0||"},
		{"r2 r2 r1", "-1", "2; 0|0 0 -2|-1 -1 0; -1; 0||"},
		{"r3 r2 r2 r3", "-1", "2; 0|-4 0 0 -4|0 -1 -1 0; -1; 0||"},
		{"r2 r3 r3 r2", "-1", "2; 0|0 -4 -4|-1 0 0; -1; 0||"},
		{"r3 r3 r2 r2", "-1", "2; 0|-4 -4|0 0; -1; 0||"},
		{"r4 r3 r2 r5", "-1", "2; 0|-5 -4 0 -6|0 0 -1 0; -1; 0||"},
		// Nothing but reductions counts, however often it comes.
		{"a a r7 ! ! ! . . . s0 s0 s0", "-1", "7; 0|-1 -1 0 0 0 0 0 0 0 1 1 1|0 0 -1 0 0 0 -1 -1 -1 0 0 0; -1; 0||"},
		// A shift stays that has the default's number for its state.
		{"r1 r1 s1/s1 . a", "-1/-1", "1 -1; 1 0|2 0 -1 2|1 -1 1 0; -1; 0||"},
		// One state's default is not another one's.
		{"r1 r2 r1/r2 r2 r1", "-1/-1", "1 2; 0 0|0 -3 -2|-1 0 1; -1; 0||"},
		// Targets: the state that most lists have; of several the least.
		{"./.", "1/0", "-1 -1; 0 0||; 0; 0|1|0"},
		{"./.", "0/1", "-1 -1; 0 0||; 0; 0|0 1|-1 0"},
		{"././.", "2/2/1", "-1 -1 -1; 0 0 0||; 2; 0|0 0 1|-1 -1 0"},
		{"././.", "1/2/2", "-1 -1 -1; 0 0 0||; 2; 0|1|0"},
		{"./././.", "3/1/1/3", "-1 -1 -1 -1; 0 0 0 0||; 1; 0|3 0 0 3|0 -1 -1 0"},
		// -1 does not count, however often it comes.
		{"./././.", "-1/-1/-1/3", "-1 -1 -1 -1; 0 0 0 0||; 3; 0||"},
		// Each nonterminal by itself: a row has states for its places.
		{"./.", "0 1 -1 1/1 1 -1 0", "-1 -1; 0 0||; 0 1 -1 0; 0 0 0 0|1 1|3 0"},
		{"././.", "0 0 0/0 1 1/0 2 2", "-1 -1 -1; 0 0 0||; 0 0 0; 0 0 2|0 1 2 1 2|-1 1 1 2 2"},
		// The widths of both halves may be unlike.
		{". . ./. . .", "-1/-1", "-1 -1; 0 0||; -1; 0||"},
		{"./.", "-1 -1 -1/-1 -1 -1", "-1 -1; 0 0||; -1 -1 -1; 0 0 0||"},
	} {
		wantPacked(t, dense(c.actions, c.gotos), c.want)
	}
}

// rowsOf are so many lists of so many of the same.
func rowsOf[T any](lists, width int, one T) [][]T {
	all := make([][]T, lists)
	for i := range all {
		for range width {
			all[i] = append(all[i], one)
		}
	}
	return all
}

func TestTheLargestTables(t *testing.T) {
	none := api.Action{}
	for _, states := range []int{1, 2, 255, 256} {
		for _, width := range []int{1, 2, 64, 65} {
			d := api.Dense{Actions: rowsOf(states, width, shift(states-1)), Gotos: rowsOf(states, 66-width, states-1)}
			p, err := pack.Pack(d)
			if err != api.OK || told(p.Defaults) != told(filled(-1, states)) || told(p.Actions.Values) != told(filled(states, states*width)) {
				t.Errorf("%d states with %d actions are packed as %s, %d", states, width, toldPacked(p), err)
			}
			if told(p.Targets) != told(filled(states-1, 66-width)) || toldRows(p.Gotos) != told(filled(0, 66-width))+"||" {
				t.Errorf("%d states with %d nonterminals are packed as %s", states, 66-width, toldPacked(p))
			}
		}
	}
	for _, c := range []struct{ states, actions, lists, gotos int }{
		{0, 1, 0, 1}, {0, 0, 0, 0}, {257, 1, 257, 1}, {1000, 1, 1000, 1}, {1, 66, 1, 1}, {1, 1, 1, 66}, {256, 66, 256, 65}, {256, 65, 256, 66}, {1, 0, 1, 1}, {1, 1, 1, 0}, {256, 0, 256, 1}, {256, 1, 256, 0},
		{1, 1, 0, 0}, {0, 0, 1, 1}, {2, 1, 1, 1}, {1, 1, 2, 1}, {256, 1, 255, 1}, {255, 1, 256, 1}, {256, 1, 257, 1}, {257, 1, 256, 1}, {1, 1 << 20, 1, 1}, {1, 1, 1, 1 << 20}, {1 << 20, 1, 1 << 20, 1},
	} {
		d := api.Dense{Actions: rowsOf(c.states, c.actions, none), Gotos: rowsOf(c.lists, c.gotos, -1)}
		wantNotPacked(t, told([]int{c.states, c.actions, c.lists, c.gotos}), d)
	}
}

// Lists of other lengths than the first one's, wherever they stand.
func TestTornTables(t *testing.T) {
	for at := range 3 {
		for _, width := range []int{0, 1, 3, 66} {
			d := dense(". ./. ./. .", "-1 -1/-1 -1/-1 -1")
			d.Actions[at] = make([]api.Action, width)
			wantNotPacked(t, "list "+strconv.Itoa(at)+" of "+strconv.Itoa(width)+" actions", d)
			d = dense(". ./. ./. .", "-1 -1/-1 -1/-1 -1")
			d.Gotos[at] = filled(-1, width)
			wantNotPacked(t, "list "+strconv.Itoa(at)+" of "+strconv.Itoa(width)+" states", d)
		}
	}
}

// actionsThatMayBe are those of a table of two states, but for productions between.
var actionsThatMayBe = []api.Action{{}, {Kind: 1, To: 0}, {Kind: 1, To: 1}, {Kind: 2, To: 1}, {Kind: 2, To: 2}, {Kind: 2, To: 3}, {Kind: 2, To: 95}, {Kind: 2, To: 96}, {Kind: 3}, {Kind: 4}}

func TestWhichActionsMayBe(t *testing.T) {
	tos := append([]int{0, 1, 2, 3, 95, 96, 97, 128, 255, 256}, odd...)
	kinds := append([]int{0, 1, 2, 3, 4, 5, 6, 256, 257, 258}, odd...)
	count := 0
	for _, kind := range kinds {
		for _, to := range tos {
			one := api.Action{Kind: kind, To: to}
			for at := range 6 {
				d := dense(". r1 ./. . s1", "-1/-1")
				d.Actions[at/3][at%3] = one
				if !slices.Contains(actionsThatMayBe, one) {
					wantNotPacked(t, "the action "+told([]int{kind, to}), d)
				} else if p, err := pack.Pack(d); err != api.OK {
					t.Errorf("Pack of the action %v answers %d", one, err)
				} else if got := pack.Action(p, at/3, at%3); got != one && kind != api.None {
					t.Errorf("of %v Action tells %v", one, got)
				} else {
					count++
				}
			}
		}
	}
	if count != 6*len(actionsThatMayBe) {
		t.Errorf("%d tables were packed", count)
	}
}

func TestWhichStatesMayBe(t *testing.T) {
	for _, to := range append([]int{0, 1, 2, 3, 4, 255, 256, 257}, odd...) {
		for at := range 6 {
			d := dense("././.", "-1 0/-1 -1/2 -1")
			d.Gotos[at/2][at%2] = to
			if to < -1 || to > 2 {
				wantNotPacked(t, "the state "+strconv.Itoa(to), d)
			} else if p, err := pack.Pack(d); err != api.OK {
				t.Errorf("Pack of the state %d answers %d", to, err)
			} else if got := pack.Goto(p, at/2, at%2); got != to && to != -1 {
				t.Errorf("of %d Goto tells %d", to, got)
			}
		}
	}
	// A shift and a number may lead to any state of 256.
	for to := range 256 {
		d := api.Dense{Actions: rowsOf(256, 1, shift(to)), Gotos: rowsOf(256, 1, to)}
		d.Gotos[0][0] = -1
		p, err := pack.Pack(d)
		if err != api.OK {
			t.Fatalf("Pack answers %d of state %d", err, to)
		}
		wantAction(t, p, 255, 0, "s"+strconv.Itoa(to))
		wantGoto(t, p, 255, 0, to)
		wantGoto(t, p, 0, 0, to)
	}
}

// P16.4

func TestActionOfAllCodes(t *testing.T) {
	for _, c := range []struct {
		code int
		want api.Action
	}{
		{0, api.Action{Kind: 4}}, {1, api.Action{Kind: 1}}, {2, api.Action{Kind: 1, To: 1}}, {256, api.Action{Kind: 1, To: 255}}, {257, api.Action{Kind: 1, To: 256}}, {math.MaxInt, api.Action{Kind: 1, To: math.MaxInt - 1}},
		{-1, api.Action{Kind: 3}}, {-2, api.Action{Kind: 2, To: 1}}, {-3, api.Action{Kind: 2, To: 2}}, {-97, api.Action{Kind: 2, To: 96}}, {-98, api.Action{Kind: 2, To: 97}}, {math.MinInt + 1, api.Action{Kind: 2, To: math.MaxInt - 1}}, {math.MinInt, api.Action{Kind: 2, To: math.MaxInt}},
	} {
		for _, byDefault := range []int{-1, 0, 5} {
			p := api.Packed{Defaults: []int{byDefault}, Actions: api.Rows{Bases: []int{0}, Values: []int{c.code}, Owners: []int{0}}}
			if got := pack.Action(p, 0, 0); got != c.want {
				t.Errorf("Action of %d is %v; want %v", c.code, got, c.want)
			}
		}
	}
}

func TestActionByDefault(t *testing.T) {
	p := api.Packed{Defaults: append([]int{4, 0, -1, 96, 97}, odd...), Actions: api.Rows{Bases: []int{0, 0}, Values: []int{7, 8}, Owners: []int{0, 1}}}
	for state := -2; state < len(p.Defaults)+2; state++ {
		for _, term := range append([]int{2, 3, 255}, odd...) {
			want := api.Action{}
			if state >= 0 && state < len(p.Defaults) && p.Defaults[state] > 0 {
				want = reduce(p.Defaults[state])
			}
			if got := pack.Action(p, state, term); got != want {
				t.Errorf("Action of state %d at %d is %v; want %v", state, term, got, want)
			}
		}
	}
	wantAction(t, p, 0, 0, "s6")
	wantAction(t, p, 0, 1, "r4")
	wantAction(t, p, 1, 1, "s7")
	wantAction(t, p, 1, 0, ".")
	// A row may be longer than the defaults are.
	p.Defaults = nil
	wantAction(t, p, 0, 0, "s6")
	wantAction(t, p, 0, 1, ".")
	for _, state := range odd {
		wantAction(t, p, state, 0, ".")
		wantAction(t, api.Packed{}, state, 0, ".")
	}
}

func TestGotoOfAnyLists(t *testing.T) {
	p := api.Packed{Targets: append([]int{3, 0, -1, 256}, odd...), Gotos: api.Rows{Bases: []int{0, 1}, Values: []int{5, -6, -1, 0}, Owners: []int{0, 1, 1, 0}}}
	wantGoto(t, p, 0, 0, 5)
	wantGoto(t, p, 3, 0, 0)
	wantGoto(t, p, 0, 1, -6)
	wantGoto(t, p, 1, 1, -1)
	wantGoto(t, p, 1, 0, 3)
	wantGoto(t, p, 2, 1, 0)
	for non := -2; non < len(p.Targets)+2; non++ {
		want := -1
		if non >= 0 && non < len(p.Targets) {
			want = p.Targets[non]
		}
		for _, state := range append([]int{4, 5, 300}, odd...) {
			wantGoto(t, p, state, non, want)
		}
	}
	p.Targets = nil
	wantGoto(t, p, 0, 0, 5)
	wantGoto(t, p, 1, 0, -1)
	for _, non := range odd {
		wantGoto(t, p, 0, non, -1)
		wantGoto(t, api.Packed{}, 0, non, -1)
		wantGoto(t, api.Packed{}, non, 0, -1)
	}
}

// Actions and Gotos are looked at by unlike rows: of a state, and of a nonterminal.
func TestWhichRowsAreLookedAt(t *testing.T) {
	p := wantPacked(t, dense("s1 . s2/. s2 ./. . .", "-1 1/2 2/1 -1"), "-1 -1 -1; 0 0 0|2 3 3|0 1 0; 1 1; 0 1|0 2 2|-1 0 1")
	for at, want := range strings.Fields("s1 . s2 . s2 . . . .") {
		wantAction(t, p, at/3, at%3, want)
	}
	for at, want := range []int{1, 1, 2, 2, 1, 1} {
		wantGoto(t, p, at/2, at%2, want)
	}
}
