package gram_test

import (
	"math"
	"slices"
	"strconv"
	"strings"
	"testing"

	"presage/api"
	"presage/gram"
)

// source gives numbers below n that hang on the seed alone.
func source(seed uint64) func(n int) int {
	state := seed*2 + 1
	return func(n int) int {
		state = state*6364136223846793005 + 1442695040888963407
		return int(state>>33) % n
	}
}

// somePlain is a plain grammar.
func somePlain(r func(int) int) api.Grammar {
	g := api.Grammar{Terms: []api.Term{{}}}
	for i := range r(6) {
		g.Terms = append(g.Terms, api.Term{Name: string(rune('a' + i))})
	}
	for i := range g.Terms[1:] {
		if r(2) == 0 {
			g.Levels = append(g.Levels, 1+r(3))
			g.Terms[i+1].Level = len(g.Levels)
		} else {
			g.Terms[i+1].Level = r(len(g.Levels) + 1)
		}
	}
	for i := range 1 + r(4) {
		g.Nons = append(g.Nons, string(rune('a'+i)))
		g.Prods = append(g.Prods, someProd(r, g, i))
		for range r(3) {
			g.Prods = append(g.Prods, someProd(r, g, r(i+1)))
		}
	}
	for p := range g.Prods {
		for range r(4) {
			g.Prods[p].Right = append(g.Prods[p].Right, 1+r(len(g.Terms)+len(g.Nons)-1))
		}
	}
	g.Start = len(g.Terms) + r(len(g.Nons))
	return g
}

func someProd(r func(int) int, g api.Grammar, non int) api.Prod {
	return api.Prod{Left: len(g.Terms) + non, Level: r(len(g.Levels) + 1)}
}

// closedOf adds the added one and the added production to a plain grammar.
func closedOf(g api.Grammar) api.Grammar {
	first := len(g.Terms)
	moved := func(sym int) int {
		if sym >= first {
			return sym + 1
		}
		return sym
	}
	c := api.Grammar{Terms: g.Terms, Levels: g.Levels, Start: moved(g.Start)}
	c.Nons = append([]string{""}, g.Nons...)
	c.Prods = []api.Prod{{Left: first, Right: []int{c.Start}}}
	for _, p := range g.Prods {
		var right []int
		for _, sym := range p.Right {
			right = append(right, moved(sym))
		}
		c.Prods = append(c.Prods, api.Prod{Left: moved(p.Left), Right: right, Level: p.Level})
	}
	return c
}

// isPlain and isClosed say the document's words one by one, without any of gram's functions.
func isPlain(g api.Grammar) bool {
	if !hasCommon(g, g.Nons, g.Prods, 0) {
		return false
	}
	next := len(g.Terms)
	for _, p := range g.Prods {
		if p.Left > next {
			return false
		}
		if p.Left == next {
			next++
		}
	}
	return true
}

func isClosed(g api.Grammar) bool {
	if len(g.Nons) == 0 || g.Nons[0] != "" || len(g.Prods) == 0 {
		return false
	}
	added, p := len(g.Terms), g.Prods[0]
	if p.Left != added || len(p.Right) != 1 || p.Right[0] != g.Start || p.Level != 0 || g.Start == added {
		return false
	}
	for _, p := range g.Prods[1:] {
		if p.Left == added || slices.Contains(p.Right, added) {
			return false
		}
	}
	return hasCommon(g, g.Nons[1:], g.Prods[1:], added)
}

func hasCommon(g api.Grammar, nons []string, prods []api.Prod, added int) bool {
	if len(g.Terms) == 0 || g.Terms[0].Name != "" || g.Terms[0].Level != 0 {
		return false
	}
	if len(g.Terms)-1+len(nons) > 64 || len(prods) < 1 || len(prods) > 96 {
		return false
	}
	top := len(g.Terms) + len(g.Nons)
	for i, term := range g.Terms[1:] {
		ok := len(term.Name) >= 1 && len(term.Name) <= 16 && term.Level >= 0 && term.Level <= len(g.Levels)
		for _, c := range []byte(term.Name) {
			ok = ok && c >= 32 && c <= 126 && c != 39
		}
		for _, other := range g.Terms[1+i+1:] {
			ok = ok && other.Name != term.Name
		}
		if !ok {
			return false
		}
	}
	for i, name := range nons {
		ok := len(name) >= 1 && len(name) <= 16 && strings.Trim(name, "ABCDEFGHIJKLMNOPQRSTUVWXYZabcdefghijklmnopqrstuvwxyz_0123456789") == "" && !strings.Contains("0123456789", name[:1])
		if !ok || slices.Contains(nons[i+1:], name) {
			return false
		}
		left := false
		for _, p := range prods {
			left = left || p.Left == top-len(nons)+i
		}
		if !left {
			return false
		}
	}
	for i, side := range g.Levels {
		had := false
		for _, term := range g.Terms {
			had = had || term.Level == i+1
		}
		if !had || side != 1 && side != 2 && side != 3 {
			return false
		}
	}
	for _, p := range prods {
		if p.Left < len(g.Terms) || p.Left >= top || p.Level < 0 || p.Level > len(g.Levels) {
			return false
		}
		for _, sym := range p.Right {
			if sym <= 0 || sym >= top {
				return false
			}
		}
	}
	return g.Start >= len(g.Terms) && g.Start < top
}

func wantKind(t *testing.T, what string, g api.Grammar, valid, closed bool) {
	t.Helper()
	if got := gram.Valid(g); got != valid {
		t.Errorf("%s: Valid %v, want %v, of %v", what, got, valid, g)
	}
	if got := gram.Closed(g); got != closed {
		t.Errorf("%s: Closed %v, want %v, of %v", what, got, closed, g)
	}
	if isPlain(g) != valid || isClosed(g) != closed {
		t.Errorf("%s: by the document's words plain %v, closed %v", what, isPlain(g), isClosed(g))
	}
}

// twoNons is plain: a : x a | b ; b : ;
func twoNons() api.Grammar {
	return api.Grammar{
		Terms:  []api.Term{{}, {Name: "x", Level: 1}, {Name: "y", Level: 2}, {Name: "z"}},
		Nons:   []string{"a", "b"},
		Levels: []int{api.Left, api.Neither},
		Start:  4,
		Prods:  []api.Prod{{Left: 4, Right: []int{1, 4}, Level: 1}, {Left: 4, Right: []int{5}}, {Left: 5}},
	}
}

// wrongs are changes by which a plain grammar that is like twoNons, or a closed one, is neither any more. The symbols of a and b are handed in.
var wrongs = []struct {
	what   string
	change func(g *api.Grammar, a, b int)
}{
	{"no terminals", func(g *api.Grammar, a, b int) { g.Terms = nil }},
	{"no end marker", func(g *api.Grammar, a, b int) { g.Terms[0].Name = "w" }},
	{"the end marker with a level", func(g *api.Grammar, a, b int) { g.Terms[0].Level = 1 }},
	{"a second end marker", func(g *api.Grammar, a, b int) { g.Terms[3].Name = "" }},
	{"a text with a quote", func(g *api.Grammar, a, b int) { g.Terms[3].Name = "it's" }},
	{"a text with byte 31", func(g *api.Grammar, a, b int) { g.Terms[3].Name = "a\x1f" }},
	{"a text with byte 127", func(g *api.Grammar, a, b int) { g.Terms[3].Name = "a\x7f" }},
	{"a text of 17 bytes", func(g *api.Grammar, a, b int) { g.Terms[3].Name = strings.Repeat("z", 17) }},
	{"two texts alike", func(g *api.Grammar, a, b int) { g.Terms[3].Name = "x" }},
	{"a terminal's level below 0", func(g *api.Grammar, a, b int) { g.Terms[3].Level = -1 }},
	{"a terminal's level above all", func(g *api.Grammar, a, b int) { g.Terms[3].Level = 3 }},
	{"a level that no terminal has", func(g *api.Grammar, a, b int) { g.Terms[1].Level = 2 }},
	{"a level more", func(g *api.Grammar, a, b int) { g.Levels = append(g.Levels, 1) }},
	{"a level less", func(g *api.Grammar, a, b int) { g.Levels = g.Levels[:1] }},
	{"side 0", func(g *api.Grammar, a, b int) { g.Levels[1] = 0 }},
	{"side 4", func(g *api.Grammar, a, b int) { g.Levels[0] = 4 }},
	{"side -1", func(g *api.Grammar, a, b int) { g.Levels[0] = -1 }},
	{"no nonterminals", func(g *api.Grammar, a, b int) { g.Nons = nil }},
	{"an empty name", func(g *api.Grammar, a, b int) { g.Nons[len(g.Nons)-1] = "" }},
	{"a name that begins with a digit", func(g *api.Grammar, a, b int) { g.Nons[len(g.Nons)-1] = "1b" }},
	{"a name with a sign", func(g *api.Grammar, a, b int) { g.Nons[len(g.Nons)-1] = "b-" }},
	{"a name of 17 bytes", func(g *api.Grammar, a, b int) { g.Nons[len(g.Nons)-1] = strings.Repeat("b", 17) }},
	{"two names alike", func(g *api.Grammar, a, b int) { g.Nons[len(g.Nons)-1] = "a" }},
	{"no productions", func(g *api.Grammar, a, b int) { g.Prods = nil }},
	{"a terminal as Left", func(g *api.Grammar, a, b int) { g.Prods[len(g.Prods)-2].Left = 1 }},
	{"the end marker as Left", func(g *api.Grammar, a, b int) { g.Prods[len(g.Prods)-2].Left = 0 }},
	{"a Left beyond the nonterminals", func(g *api.Grammar, a, b int) { g.Prods[len(g.Prods)-2].Left = b + 1 }},
	{"a Left below 0", func(g *api.Grammar, a, b int) { g.Prods[len(g.Prods)-2].Left = math.MinInt }},
	{"the end marker in a Right", func(g *api.Grammar, a, b int) { g.Prods[len(g.Prods)-2].Right = []int{b, 0} }},
	{"a Right with a number below 0", func(g *api.Grammar, a, b int) { g.Prods[len(g.Prods)-2].Right = []int{-1} }},
	{"a Right with a number beyond", func(g *api.Grammar, a, b int) { g.Prods[len(g.Prods)-1].Right = []int{b + 1} }},
	{"a production's level below 0", func(g *api.Grammar, a, b int) { g.Prods[len(g.Prods)-1].Level = -1 }},
	{"a production's level above all", func(g *api.Grammar, a, b int) { g.Prods[len(g.Prods)-1].Level = 3 }},
	{"a nonterminal without a production", func(g *api.Grammar, a, b int) { g.Prods[len(g.Prods)-1].Left = a }},
	{"a nonterminal too few", func(g *api.Grammar, a, b int) { g.Nons = g.Nons[:len(g.Nons)-1] }},
	{"a nonterminal too many", func(g *api.Grammar, a, b int) { g.Nons = append(g.Nons, "c") }},
	{"Start a terminal", func(g *api.Grammar, a, b int) { setStart(g, 3) }},
	{"Start the end marker", func(g *api.Grammar, a, b int) { setStart(g, 0) }},
	{"Start beyond the nonterminals", func(g *api.Grammar, a, b int) { setStart(g, b+1) }},
	{"Start below 0", func(g *api.Grammar, a, b int) { setStart(g, -1) }},
}

// setStart changes the added production too, where there is one, so that Start itself is what is wrong.
func setStart(g *api.Grammar, start int) {
	g.Start = start
	if g.Nons[0] == "" {
		g.Prods[0].Right = []int{start}
	}
}

func TestAPlainGrammarIsValid(t *testing.T) {
	wantKind(t, "a plain one", twoNons(), true, false)
	g := twoNons()
	setStart(&g, 5)
	wantKind(t, "Start is the second one", g, true, false)
	g = twoNons()
	g.Terms[3].Name = "a"
	wantKind(t, "a terminal with a nonterminal's name", g, true, false)
	g = twoNons()
	g.Terms[3] = api.Term{Name: "~ !\"#$%&()*+,-./", Level: 2}
	g.Prods[2].Level = 2
	wantKind(t, "a text of 16 bytes, the highest level", g, true, false)
	wantKind(t, "the least one", api.Grammar{Terms: []api.Term{{}}, Nons: []string{"s"}, Start: 1, Prods: []api.Prod{{Left: 1}}}, true, false)
	wantKind(t, "nothing", api.Grammar{}, false, false)
	for _, wrong := range wrongs {
		g := twoNons()
		wrong.change(&g, 4, 5)
		wantKind(t, wrong.what, g, false, false)
	}
}

func TestAPlainGrammarHasItsNonterminalsInOrder(t *testing.T) {
	g := twoNons()
	g.Prods[0].Left, g.Prods[1].Left, g.Prods[2].Left = 5, 4, 4
	wantKind(t, "the second one first", g, false, false)
	g.Prods[0].Left, g.Prods[1].Left, g.Prods[2].Left = 4, 5, 4
	wantKind(t, "the first one again", g, true, false)
	g.Nons = []string{"z", "a"}
	wantKind(t, "whatever their names", g, true, false)
	wantKind(t, "closed, the second one first", swapped(closedOf(twoNons())), false, true)
}

// swapped are the two nonterminals behind the added one in the other order.
func swapped(g api.Grammar) api.Grammar {
	a, b := len(g.Terms)+1, len(g.Terms)+2
	other := func(sym int) int {
		switch sym {
		case a:
			return b
		case b:
			return a
		}
		return sym
	}
	g.Nons[1], g.Nons[2] = g.Nons[2], g.Nons[1]
	g.Start = other(g.Start)
	for i := range g.Prods {
		g.Prods[i].Left = other(g.Prods[i].Left)
		for j := range g.Prods[i].Right {
			g.Prods[i].Right[j] = other(g.Prods[i].Right[j])
		}
	}
	return g
}

func TestAClosedGrammarHasTheAddedOnes(t *testing.T) {
	wantKind(t, "a closed one", closedOf(twoNons()), false, true)
	wantKind(t, "the least one", api.Grammar{Terms: []api.Term{{}}, Nons: []string{"", "s"}, Start: 2, Prods: []api.Prod{{Left: 1, Right: []int{2}}, {Left: 2}}}, false, true)
	for _, wrong := range wrongs {
		g := closedOf(twoNons())
		wrong.change(&g, 5, 6)
		wantKind(t, "closed, "+wrong.what, g, false, false)
	}
	for _, c := range []struct {
		what   string
		change func(g *api.Grammar)
	}{
		{"the added one with no name's bytes", func(g *api.Grammar) { g.Nons[0] = " " }},
		{"the added one is not the first", func(g *api.Grammar) { g.Nons[0], g.Nons[1] = g.Nons[1], g.Nons[0] }},
		{"the added one is Start", func(g *api.Grammar) { setStart(g, 4) }},
		{"the added one in a Right", func(g *api.Grammar) { g.Prods[3].Right = []int{1, 4} }},
		{"the added one is another Left", func(g *api.Grammar) { g.Prods[1].Left = 4 }},
		{"a second added production", func(g *api.Grammar) { g.Prods = append(g.Prods, api.Prod{Left: 4, Right: []int{5}}) }},
		{"the added production with a level", func(g *api.Grammar) { g.Prods[0].Level = 1 }},
		{"the added production of another one", func(g *api.Grammar) { g.Prods[0].Left = 5 }},
		{"the added production with another Right", func(g *api.Grammar) { g.Prods[0].Right = []int{6} }},
		{"the added production without a Right", func(g *api.Grammar) { g.Prods[0].Right = nil }},
		{"the added production with Start twice", func(g *api.Grammar) { g.Prods[0].Right = []int{5, 5} }},
		{"the added production stands last", func(g *api.Grammar) { g.Prods = append(g.Prods[1:], g.Prods[0]) }},
		{"no added production", func(g *api.Grammar) { g.Prods = g.Prods[1:] }},
		{"the added production alone", func(g *api.Grammar) { g.Prods = g.Prods[:1] }},
		{"the added ones alone", func(g *api.Grammar) { g.Nons, g.Prods = g.Nons[:1], g.Prods[:1] }},
		{"closed twice", func(g *api.Grammar) { *g = closedOf(*g) }},
	} {
		g := closedOf(twoNons())
		c.change(&g)
		wantKind(t, c.what, g, false, false)
	}
	g := closedOf(twoNons())
	g.Nons[0] = "s"
	wantKind(t, "with a name in its place it is plain", g, true, false)
	wantKind(t, "nothing but the added ones", api.Grammar{Terms: []api.Term{{}}, Nons: []string{""}, Start: 1, Prods: []api.Prod{{Left: 1, Right: []int{1}}}}, false, false)
}

// ofSizes is a plain grammar with so many terminals, nonterminals and productions.
func ofSizes(terms, nons, prods int) api.Grammar {
	g := api.Grammar{Terms: []api.Term{{}}, Start: terms + 1}
	for i := range terms {
		g.Terms = append(g.Terms, api.Term{Name: "t" + strconv.Itoa(i)})
	}
	for i := range nons {
		g.Nons = append(g.Nons, "n"+strconv.Itoa(i))
	}
	for i := range prods {
		g.Prods = append(g.Prods, api.Prod{Left: terms + 1 + i%nons})
	}
	return g
}

func TestGrammarsKeepWithinTheLimits(t *testing.T) {
	for _, c := range []struct {
		terms, nons, prods int
		may                bool
	}{
		{0, 64, 64, true}, {0, 65, 65, false}, {63, 1, 1, true}, {64, 1, 1, false}, {32, 32, 96, true}, {32, 33, 96, false},
		{1, 1, 96, true}, {1, 1, 97, false}, {1, 1, 1000, false}, {5000, 1, 1, false}, {1, 2000, 2000, false},
	} {
		g := ofSizes(c.terms, c.nons, c.prods)
		wantKind(t, "plain", g, c.may, false)
		wantKind(t, "closed", closedOf(g), false, c.may)
	}
}

func TestEveryLevelMayBeOneTerminals(t *testing.T) {
	g := ofSizes(63, 1, 1)
	for i := range 63 {
		g.Terms[63-i].Level = i + 1
		g.Levels = append(g.Levels, 1+i%3)
	}
	wantKind(t, "63 levels", g, true, false)
	wantKind(t, "63 levels, closed", closedOf(g), false, true)
}

// Each of these grammars is a plain or a closed one of which one number, text or list has been changed, or none.
func TestValidAndClosedSayTheDocumentsWords(t *testing.T) {
	var plain, closed, neither int
	for seed := range uint64(30000) {
		r := source(seed)
		g := somePlain(r)
		if r(2) == 0 {
			g = closedOf(g)
		}
		g = gram.Copy(g)
		if r(5) > 0 {
			disturb(&g, r)
		}
		valid, shut := gram.Valid(g), gram.Closed(g)
		if valid != isPlain(g) || shut != isClosed(g) || valid && shut {
			t.Fatalf("Valid %v, Closed %v, want %v, %v of %v", valid, shut, isPlain(g), isClosed(g), g)
		}
		switch {
		case valid:
			plain++
		case shut:
			closed++
		default:
			neither++
		}
	}
	if min(plain, closed, neither) < 3000 {
		t.Errorf("%d plain ones, %d closed ones, %d neither", plain, closed, neither)
	}
}

func disturb(g *api.Grammar, r func(int) int) {
	sym := func() int { return r(len(g.Terms)+len(g.Nons)+2) - 1 }
	p := &g.Prods[r(len(g.Prods))]
	switch r(13) {
	case 0:
		g.Start = sym()
	case 1:
		p.Left = sym()
	case 2:
		p.Right = append(p.Right, sym())
	case 3:
		p.Level = r(len(g.Levels)+3) - 1
	case 4:
		g.Terms[r(len(g.Terms))].Level = r(len(g.Levels)+3) - 1
	case 5:
		g.Terms[r(len(g.Terms))].Name = []string{"", "a", "q", "'"}[r(4)]
	case 6:
		g.Nons[r(len(g.Nons))] = []string{"", "a", "q", "1"}[r(4)]
	case 7:
		g.Levels = append(g.Levels, r(5))
	case 8:
		g.Prods = append(g.Prods, api.Prod{Left: sym(), Right: []int{sym()}})
	case 9:
		i, j := r(len(g.Prods)), r(len(g.Prods))
		g.Prods[i], g.Prods[j] = g.Prods[j], g.Prods[i]
	case 10:
		g.Nons = append(g.Nons, "q")
	case 11:
		g.Prods = slices.Delete(g.Prods, len(g.Prods)-1, len(g.Prods))
	case 12:
		if len(g.Levels) > 0 {
			g.Levels[r(len(g.Levels))] = r(5)
		}
	}
}

func TestSameTellsEveryField(t *testing.T) {
	for _, c := range []struct {
		what   string
		change func(g *api.Grammar)
	}{
		{"a text", func(g *api.Grammar) { g.Terms[2].Name = "w" }},
		{"a terminal's level", func(g *api.Grammar) { g.Terms[2].Level = 0 }},
		{"a terminal less", func(g *api.Grammar) { g.Terms = g.Terms[:3] }},
		{"a terminal more", func(g *api.Grammar) { g.Terms = append(g.Terms, api.Term{}) }},
		{"a name", func(g *api.Grammar) { g.Nons[1] = "c" }},
		{"a name less", func(g *api.Grammar) { g.Nons = g.Nons[:1] }},
		{"no names", func(g *api.Grammar) { g.Nons = nil }},
		{"a side", func(g *api.Grammar) { g.Levels[1] = 2 }},
		{"a level less", func(g *api.Grammar) { g.Levels = g.Levels[:1] }},
		{"Start", func(g *api.Grammar) { g.Start = 5 }},
		{"a Left", func(g *api.Grammar) { g.Prods[2].Left = 4 }},
		{"a symbol", func(g *api.Grammar) { g.Prods[0].Right[1] = 5 }},
		{"a symbol more", func(g *api.Grammar) { g.Prods[2].Right = []int{0} }},
		{"a symbol less", func(g *api.Grammar) { g.Prods[0].Right = g.Prods[0].Right[:1] }},
		{"a production's level", func(g *api.Grammar) { g.Prods[1].Level = 1 }},
		{"a production less", func(g *api.Grammar) { g.Prods = g.Prods[:2] }},
		{"a production more", func(g *api.Grammar) { g.Prods = append(g.Prods, api.Prod{}) }},
		{"the productions' order", func(g *api.Grammar) { g.Prods[0], g.Prods[1] = g.Prods[1], g.Prods[0] }},
	} {
		g, h := twoNons(), twoNons()
		if !gram.Same(g, h) || !gram.Same(g, g) {
			t.Errorf("a grammar is not the same as itself")
		}
		c.change(&h)
		if gram.Same(g, h) || gram.Same(h, g) {
			t.Errorf("%s: told the same", c.what)
		}
		if !gram.Same(h, h) || !gram.Same(gram.Copy(h), h) {
			t.Errorf("%s: not the same as itself", c.what)
		}
	}
}

func TestSameTakesNoneAndAnEmptyListAlike(t *testing.T) {
	empty := api.Grammar{Terms: []api.Term{}, Nons: []string{}, Levels: []int{}, Prods: []api.Prod{}}
	if !gram.Same(empty, api.Grammar{}) || !gram.Same(api.Grammar{}, empty) || !gram.Same(api.Grammar{}, api.Grammar{}) {
		t.Errorf("none and an empty list are told apart")
	}
	g, h := twoNons(), twoNons()
	g.Prods[2].Right, h.Prods[2].Right = nil, []int{}
	if !gram.Same(g, h) || !gram.Same(h, g) {
		t.Errorf("no Right and an empty one are told apart")
	}
	wantKind(t, "an empty Right", h, true, false)
	h = ofSizes(1, 1, 1)
	h.Levels = []int{}
	wantKind(t, "empty Levels", h, true, false)
}

func TestCopyIsTheSameInNewMemory(t *testing.T) {
	for _, g := range []api.Grammar{twoNons(), closedOf(twoNons()), {}, {Start: -7, Levels: []int{9}, Prods: []api.Prod{{Left: -1, Right: []int{-5}, Level: -3}}}} {
		was := told(g)
		c, d := gram.Copy(g), gram.Copy(g)
		if told(c) != was || !gram.Same(c, g) {
			t.Errorf("Copy is %v of %v", c, g)
		}
		scribble(c)
		if told(g) != was || told(d) != was {
			t.Errorf("a copy shares memory with the grammar or with another copy")
		}
	}
}

func TestCopyOfListsThatShareMemoryHasThemApart(t *testing.T) {
	row := []int{1, 4, 1, 4}
	g := twoNons()
	g.Prods[0].Right, g.Prods[1].Right, g.Prods[2].Right = row[:2], row[1:3], row[:0]
	g.Nons, g.Levels = g.Nons[:2:2], row[:1]
	c := gram.Copy(g)
	fill(c.Prods[0].Right, 99)
	fill(c.Prods[2].Right, 98)
	fill(c.Levels, 97)
	if !slices.Equal(c.Prods[1].Right, []int{4, 1}) || !slices.Equal(c.Prods[0].Right, []int{99, 99}) {
		t.Errorf("lists of a copy share memory: %v", c)
	}
	if !slices.Equal(row, []int{1, 4, 1, 4}) {
		t.Errorf("a copy shares memory with its grammar: %v", row)
	}
}

func TestAskingChangesNothing(t *testing.T) {
	for _, g := range []api.Grammar{twoNons(), closedOf(twoNons())} {
		// Spare room behind each list: it too must stay as it is.
		g.Terms = append(g.Terms, api.Term{Name: "spare"})
		g.Nons = append(g.Nons, "spare")
		g.Levels = append(g.Levels, 77)
		g.Prods = append(g.Prods, api.Prod{Left: 77})
		h := g
		h.Terms, h.Nons = g.Terms[:len(g.Terms)-1], g.Nons[:len(g.Nons)-1]
		h.Levels, h.Prods = g.Levels[:len(g.Levels)-1], g.Prods[:len(g.Prods)-1]
		was := told(g)
		if gram.Valid(h) == gram.Closed(h) || !gram.Same(h, gram.Copy(h)) {
			t.Errorf("Valid %v, Closed %v of %v", gram.Valid(h), gram.Closed(h), h)
		}
		if told(g) != was {
			t.Errorf("asked, a grammar was changed: %v", g)
		}
	}
}
