package pack_test

import (
	"slices"
	"testing"

	"presage/api"
	"presage/pack"
)

// R1: lists that share memory

func TestRowsThatShareMemory(t *testing.T) {
	one := rows("0:1 1:2 2:3")[0]
	wantLaid(t, [][]api.Edge{one, one[:2], one[1:2], one[2:]}, "0 3 4 4|1 2 3 1 2 2 3|0 0 0 1 1 2 3")
	same := make([][]api.Edge, api.MaxStates)
	for i := range same {
		same[i] = one[:1]
	}
	if r, err := pack.Lay(same...); err != api.OK || len(r.Values) != 256 || r.Bases[255] != 255 || r.Owners[255] != 255 {
		t.Errorf("Lay of 256 times one row is %s, %d", toldRows(r), err)
	}
}

func TestTablesThatShareMemory(t *testing.T) {
	d := dense("s1 r2 r2/. . .", "1 1 -1/-1 -1 -1")
	d.Actions[1] = d.Actions[0]
	d.Gotos[1] = d.Gotos[0]
	wantPacked(t, d, "2 2; 0 1|2 2|0 1; 1 1 -1; 0 0 0||")
	d.Actions[0], d.Actions[1] = d.Actions[0][:2], d.Actions[0][1:]
	d.Gotos[0], d.Gotos[1] = d.Gotos[0][:2], d.Gotos[0][1:]
	wantPacked(t, d, "2 2; 0 0|2|0; 1 1; 0 0||")
	// All lists of a packed table may be one.
	list := []int{0, 1, 0, 2}
	r := api.Rows{Bases: list, Values: list, Owners: list}
	wantAt(t, r, 0, 0, 0)
	wantAt(t, r, 0, 2, 0)
	wantNotAt(t, r, 0, 1)
	wantAt(t, r, 1, 0, 1)
	wantNotAt(t, r, 1, 1)
	p := api.Packed{Defaults: list, Actions: r, Targets: list, Gotos: r}
	wantAction(t, p, 1, 0, "s0")
	wantAction(t, p, 1, 1, "r1")
	wantGoto(t, p, 0, 1, 1)
	wantGoto(t, p, 1, 3, 2)
}

// R3

// roomy is a list with spare room, and a mark in it.
func roomy[T any](list []T, mark T) []T { return append(slices.Clone(list), mark)[:len(list)] }

// markOf is what stands in a roomy list's spare room.
func markOf[T any](list []T) T { return list[:len(list)+1][len(list)] }

// overwrite fills a list, spare room too.
func overwrite[T any](list []T, by T) {
	list = list[:cap(list)]
	for i := range list {
		list[i] = by
	}
}

func TestLayLeavesItsRowsAsTheyAre(t *testing.T) {
	mark := api.Edge{Sym: 77, To: 77}
	want := rows("5:7 2:8//0:5 1:6 2:4/1:9")
	var list [][]api.Edge
	for _, row := range want {
		list = append(list, roomy(row, mark))
	}
	list = roomy(list, []api.Edge{mark})
	wantLaid(t, list, "1 0 0 3|5 6 4 8 9 0 7|2 2 2 0 3 -1 0")
	for i, row := range list {
		if !slices.Equal(row, want[i]) || markOf(row) != mark {
			t.Errorf("row %d was %v, is %v", i, want[i], row[:len(row)+1])
		}
	}
	if !slices.Equal(markOf(list), []api.Edge{mark}) {
		t.Errorf("behind the rows stands %v", markOf(list))
	}
}

func TestPackLeavesItsTableAsItIs(t *testing.T) {
	mark := api.Action{Kind: 77, To: 77}
	want := dense("s1 r2 r2 r1/. a ! s0", "1 1 -1/-1 0 1")
	var d api.Dense
	for state := range want.Actions {
		d.Actions = append(d.Actions, roomy(want.Actions[state], mark))
		d.Gotos = append(d.Gotos, roomy(want.Gotos[state], 77))
	}
	d.Actions, d.Gotos = roomy(d.Actions, []api.Action{mark}), roomy(d.Gotos, []int{77})
	wantPacked(t, d, "2 -1; 4 0|0 -1 0 1 2 0 0 -2|-1 1 1 1 0 -1 -1 0; 1 0 1; 0 0 0|1|1")
	for state := range want.Actions {
		if !slices.Equal(d.Actions[state], want.Actions[state]) || markOf(d.Actions[state]) != mark {
			t.Errorf("the actions of state %d were %v, are %v", state, want.Actions[state], d.Actions[state])
		}
		if !slices.Equal(d.Gotos[state], want.Gotos[state]) || markOf(d.Gotos[state]) != 77 {
			t.Errorf("the states of state %d were %v, are %v", state, want.Gotos[state], d.Gotos[state])
		}
	}
	if !slices.Equal(markOf(d.Actions), []api.Action{mark}) || !slices.Equal(markOf(d.Gotos), []int{77}) {
		t.Error("the room behind the lists is overwritten")
	}
}

// listsOf are all lists of a packed table.
func listsOf(p api.Packed) [][]int {
	return [][]int{p.Defaults, p.Actions.Bases, p.Actions.Values, p.Actions.Owners, p.Targets, p.Gotos.Bases, p.Gotos.Values, p.Gotos.Owners}
}

// Whatever one list of an answer is overwritten with, all other ones, and those of a later answer, are as they were.
func TestAnswersAreNewMemory(t *testing.T) {
	d := dense("s1 r2 r2 r1/. a ! s0", "1 1 -1/0 0 1")
	list := rows("5:7 2:8//0:5 1:6 2:4/1:9")
	laid := func() api.Packed {
		r, _ := pack.Lay(list...)
		return api.Packed{Actions: r}
	}
	packed := func() api.Packed {
		p, _ := pack.Pack(d)
		return p
	}
	for _, ask := range []func() api.Packed{laid, packed} {
		first := ask()
		want := toldPacked(first)
		for i := range listsOf(first) {
			spoiled := ask()
			kept := slices.Clone(listsOf(spoiled)[i])
			overwrite(listsOf(spoiled)[i], 55)
			copy(listsOf(spoiled)[i], kept)
			if got := toldPacked(spoiled); got != want {
				t.Errorf("list %d shares memory: %s, then %s", i, want, got)
			}
			overwrite(listsOf(spoiled)[i], 55)
			if toldPacked(first) != want || toldPacked(ask()) != want {
				t.Errorf("list %d is kept: %s, then %s", i, want, toldPacked(ask()))
			}
		}
	}
}

// What is read stays as it is, spare room included.
func TestReadingChangesNothing(t *testing.T) {
	d := dense("s1 r2 r2 r1/. a ! s0", "1 1 -1/0 0 1")
	p, _ := pack.Pack(d)
	want := toldPacked(p)
	lists := []*[]int{&p.Defaults, &p.Actions.Bases, &p.Actions.Values, &p.Actions.Owners, &p.Targets, &p.Gotos.Bases, &p.Gotos.Values, &p.Gotos.Owners}
	for _, list := range lists {
		*list = roomy(*list, 77)
	}
	for state := -1; state < 4; state++ {
		for sym := -1; sym < 6; sym++ {
			pack.Action(p, state, sym)
			pack.Goto(p, state, sym)
			pack.At(p.Actions, state, sym)
			pack.At(p.Gotos, sym, state)
		}
	}
	if toldPacked(p) != want {
		t.Errorf("%s was %s", toldPacked(p), want)
	}
	for i, list := range lists {
		if markOf(*list) != 77 {
			t.Errorf("the room of list %d is overwritten", i)
		}
	}
}
