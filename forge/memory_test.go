package forge_test

import (
	"cmp"
	"fmt"
	"reflect"
	"slices"
	"sync"
	"testing"

	"presage/api"
	"presage/forge"
	"presage/gram"
)

// answers are what a system tells, each by itself.
func answers(s *forge.System) []any {
	return []any{s.Grammar(), s.Automaton(), s.Looks(), s.Settled(), s.Packed()}
}

// eachList hands out all lists of a value, spare room included.
func eachList(v reflect.Value, each func(list reflect.Value)) {
	switch v.Kind() {
	case reflect.Struct:
		for i := range v.NumField() {
			eachList(v.Field(i), each)
		}
	case reflect.Slice:
		list := v.Slice(0, v.Cap())
		for i := range list.Len() {
			eachList(list.Index(i), each)
		}
		each(list)
	}
}

// spoil overwrites all lists of a value, spare room included; those within a list first.
func spoil(value any) {
	eachList(reflect.ValueOf(value), func(list reflect.Value) {
		for i := range list.Len() {
			spoilOne(list.Index(i))
		}
	})
}

func spoilOne(v reflect.Value) {
	switch v.Kind() {
	case reflect.Int:
		v.SetInt(v.Int() + 55)
	case reflect.String:
		v.SetString("spoiled")
	case reflect.Slice:
		v.SetZero()
	case reflect.Struct:
		for i := range v.NumField() {
			spoilOne(v.Field(i))
		}
	}
}

// span is a piece of memory.
type span struct {
	from, to uintptr
	of       string
}

// spans are the pieces of memory of all lists of a value, in which something is or has room.
func spans(of string, value any) []span {
	var all []span
	eachList(reflect.ValueOf(value), func(list reflect.Value) {
		if size := uintptr(list.Len()) * list.Type().Elem().Size(); size > 0 {
			all = append(all, span{list.Pointer(), list.Pointer() + size, of + ": " + list.Type().String()})
		}
	})
	return all
}

// wantApart wants that no two of these pieces of memory meet.
func wantApart(t *testing.T, all []span) {
	t.Helper()
	slices.SortFunc(all, func(a, b span) int { return cmp.Compare(a.from, b.from) })
	for i := 1; i < len(all); i++ {
		if all[i].from < all[i-1].to {
			t.Errorf("%s and %s share memory", all[i-1].of, all[i].of)
		}
	}
}

// rich are grammars whose systems have something in each list: open cells, cells that are refused, lookaheads, rows of states.
var rich = []string{
	"%left '+'; %nonassoc '<'; s : s '+' s | s '-' s | s '<' s | a s 'x' b | 'z' ; a : 'u' b | c ; b : | a '-' ; c : ;",
	"s : 'x' s 'y' | 'x' 'x' s | a 'z' | a 'u' ; a : 'x' a | 'x' ;",
	"s : 'x' ;",
	"s : ;",
}

// roomy is a grammar whose lists all have spare room, with marks in it.
func roomy(g api.Grammar) api.Grammar {
	g = gram.Copy(g)
	g.Terms = append(g.Terms, api.Term{Name: "spare"})[:len(g.Terms)]
	g.Nons = append(g.Nons, "spare")[:len(g.Nons)]
	g.Levels = append(g.Levels, 77)[:len(g.Levels)]
	for i, p := range g.Prods {
		g.Prods[i].Right = append(p.Right, 77)[:len(p.Right)]
	}
	g.Prods = append(g.Prods, api.Prod{Left: 77})[:len(g.Prods)]
	return g
}

func isUntouched(g, want api.Grammar) bool {
	for _, p := range g.Prods {
		if p.Right[:len(p.Right)+1][len(p.Right)] != 77 {
			return false
		}
	}
	return gram.Same(g, want) && g.Terms[:len(g.Terms)+1][len(g.Terms)].Name == "spare" && g.Nons[:len(g.Nons)+1][len(g.Nons)] == "spare" &&
		g.Levels[:len(g.Levels)+1][len(g.Levels)] == 77 && g.Prods[:len(g.Prods)+1][len(g.Prods)].Left == 77
}

// R3: no list of what is told is one of another answer, of the same one, or of the grammar that was handed in.
func TestWhatIsToldIsNewMemory(t *testing.T) {
	for _, text := range rich {
		for _, g := range []api.Grammar{plain(t, text), closedOf(t, text)} {
			g = roomy(g)
			s := wantOf(t, g, closedOf(t, text))
			all := spans("handed in", g)
			kept := answers(s)
			for _, one := range kept {
				all = append(all, spans("told", one)...)
			}
			again := answers(s)
			for _, one := range again {
				all = append(all, spans("told again", one)...)
			}
			if len(all) < 20 {
				t.Errorf("%s has but %d lists", text, len(all))
			}
			wantApart(t, all)
		}
	}
}

// P17.3: whatever is done to what is told, the system tells the same.
func TestWhatIsToldIsTheCallersOwn(t *testing.T) {
	for _, text := range rich {
		s := wantRead(t, text)
		want := toldAll(s)
		for i := range answers(s) {
			spoil(answers(s)[i])
			if got := toldAll(s); got != want {
				t.Errorf("%s: answer %d is kept: the system tells %s; it told %s", text, i, got, want)
			}
		}
		// A system that is made of a copy is no other one, and is told the same.
		if again := wantOf(t, s.Grammar(), closedOf(t, text)); toldAll(again) != want {
			t.Errorf("%s is told %s again; it was %s", text, toldAll(again), want)
		}
	}
}

// What is spoiled is so: else the test above would see nothing.
func TestSpoilSpoils(t *testing.T) {
	for i, one := range answers(wantRead(t, rich[0])) {
		lists := 0
		eachList(reflect.ValueOf(one), func(list reflect.Value) {
			before := fmt.Sprint(list)
			spoil(list.Interface())
			if list.Len() > 0 && fmt.Sprint(list) == before {
				t.Errorf("answer %d was not spoiled: %s", i, before)
			}
			lists++
		})
		if lists < 4 {
			t.Errorf("answer %d has but %d lists", i, lists)
		}
	}
}

// R3: the grammar that is handed in stays as it is, spare room included, also where there is no system; and it is not kept.
func TestTheGrammarIsLeftAlone(t *testing.T) {
	grammars := []api.Grammar{plain(t, "s : s ;")}
	for _, text := range append([]string{"s : s | 'x' ;", "s : 'x' u | 'y' ; u : u ;", "s : " + rowOf(300) + ";"}, rich...) {
		grammars = append(grammars, plain(t, text), closedOf(t, text))
	}
	for _, want := range grammars {
		g := roomy(want)
		s, m := forge.Of(g)
		if !isUntouched(g, want) {
			t.Errorf("the grammar became %v, it was %v", g, want)
		}
		told, mishap := toldAll(s), toldMishap(m)
		spoil(g)
		if toldAll(s) != told || toldMishap(m) != mishap {
			t.Errorf("the grammar %v is kept", want)
		}
	}
}

// The names of a circle are new memory too.
func TestTheCircleIsNewMemory(t *testing.T) {
	g := closedOf(t, "s : a ; a : b ; b : a | 'x' ;")
	_, one := forge.Of(g)
	_, other := forge.Of(g)
	wantApart(t, slices.Concat(spans("handed in", g), spans("one", one), spans("other", other)))
	spoil(one)
	if toldMishap(other) != `13 0 ["a" "b"]` || g.Nons[2] != "a" {
		t.Errorf("the circle became %s, the names %q", toldMishap(other), g.Nons)
	}
}

// R1: rows that share memory.
func TestRowsThatShareMemory(t *testing.T) {
	row := []int{1, 1, 1}
	g := api.Grammar{Terms: []api.Term{{}, {Name: "x"}}, Nons: []string{"", "s"}, Start: 3, Prods: []api.Prod{{Left: 2, Right: []int{3}}}}
	for i := range 4 {
		g.Prods = append(g.Prods, api.Prod{Left: 3, Right: row[:i]})
	}
	s := wantOf(t, g, g)
	wantApart(t, spans("told", s.Grammar()))
	// All of the lists of numbers.
	all := []int{2, 1, 1}
	g = api.Grammar{Terms: []api.Term{{}, {Name: "x", Level: 1}, {Name: "y", Level: 2}, {Name: "z", Level: 3}}, Nons: []string{"s"}, Levels: all, Start: 4, Prods: []api.Prod{{Left: 4, Right: all}, {Left: 4, Right: all[1:]}}}
	s = wantOf(t, g, api.Grammar{Terms: g.Terms, Nons: []string{"", "s"}, Levels: all, Start: 5, Prods: []api.Prod{{Left: 4, Right: []int{5}}, {Left: 5, Right: all}, {Left: 5, Right: all[1:]}}})
	wantApart(t, spans("told", s.Grammar()))
}

// R1: rows that are far longer than there may be states end soon, of use or not.
func TestLongRows(t *testing.T) {
	row := slices.Repeat([]int{1, 2}, 1<<17)
	g := plain(t, "s : 'x' 'y' ; u : u ;")
	want := closedOf(t, "%token x y; s : 'x' 'y' ;")
	for len(g.Prods) < api.MaxProds {
		g.Prods = append(g.Prods, api.Prod{Left: 4, Right: row})
	}
	wantNoneOf(t, "one of no use, of many rows", closedWith(g), isArg)
	for i := range g.Prods[1:] {
		g.Prods[1+i].Right = append([]int{4}, row...)
	}
	wantOf(t, g, want)
	g.Prods[1].Left = 3
	g.Prods[1].Right = row
	wantNoneOf(t, "of use", g, isTooBig)
	c := closedWith(g)
	c.Nons, c.Prods = c.Nons[:2], c.Prods[:3]
	wantNoneOf(t, "closed", c, isTooBig)
	c.Prods = append(c.Prods, api.Prod{Left: 4, Right: []int{4}})
	wantNoneOf(t, "closed, and a circle", c, `13 0 ["s"]`)
}

// closedWith is a plain grammar of two terminals with the added one and the added production, all else as it is.
func closedWith(g api.Grammar) api.Grammar {
	g.Nons = append([]string{""}, g.Nons...)
	g.Start++
	prods := []api.Prod{{Left: 3, Right: []int{g.Start}}}
	for _, p := range g.Prods {
		p.Left++
		if p.Right[0] >= 3 {
			p.Right = append([]int{p.Right[0] + 1}, p.Right[1:]...)
		}
		prods = append(prods, p)
	}
	g.Prods = prods
	return g
}

// R4: many may ask one system at once.
func TestAskedByMany(t *testing.T) {
	s := wantRead(t, rich[0])
	want := toldAll(s)
	told := make([]string, 8)
	var all sync.WaitGroup
	for i := range told {
		all.Go(func() {
			for _, one := range answers(s) {
				spoil(one)
			}
			told[i] = toldAll(s)
		})
	}
	all.Wait()
	for _, got := range told {
		if got != want {
			t.Errorf("it tells %s; want %s", got, want)
		}
	}
}
