package image_test

import (
	"slices"
	"strconv"
	"strings"
	"testing"

	"presage/api"
	"presage/forge"
	"presage/gram"
	"presage/image"
)

// source gives numbers below n that hang on the seed alone.
func source(seed uint64) func(n int) int {
	state := seed*2 + 1
	return func(n int) int {
		state = state*6364136223846793005 + 1442695040888963407
		return int(state>>33) % n
	}
}

// sizes are the most that a grammar has: of terminals, nonterminals, productions beside one each, symbols in a row; and how often, of a hundred times, a symbol is a terminal.
type sizes struct{ terms, nons, more, length, terminals int }

// somePlain is a plain grammar with levels; much of it may be of no use.
func somePlain(r func(n int) int, most sizes) api.Grammar {
	b := gram.New()
	terms, nons := 1+r(most.terms), 1+r(most.nons)
	for i := range terms {
		b.Term("t" + strconv.Itoa(i))
	}
	for i := range nons {
		b.Non("n" + strconv.Itoa(i))
	}
	levels := 0
	for term := 1; term <= terms; term++ {
		if r(3) > 0 {
			levels, _ = b.Level(1+r(3), term)
		}
	}
	for i := range nons + r(most.more) {
		var right []int
		for range r(most.length + 1) {
			if r(100) < most.terminals {
				right = append(right, 1+r(terms))
			} else {
				right = append(right, -1-r(nons))
			}
		}
		prod, _ := b.Rule(-1-i%nons, right...)
		if r(4) == 0 {
			b.Grade(r(levels+1), prod)
		}
	}
	b.Start(-1 - r(nons))
	g, _ := b.Grammar()
	return g
}

// turnedAround is a closed grammar with all but the first of its nonterminals and productions in an order of their own.
func turnedAround(r func(n int) int, g api.Grammar) api.Grammar {
	places := make([]int, len(g.Nons)) // where each nonterminal comes to stand
	for i := range places {
		places[i] = i
	}
	shuffled(r, places[1:])
	moved := func(sym int) int {
		if sym < len(g.Terms) {
			return sym
		}
		return len(g.Terms) + places[sym-len(g.Terms)]
	}
	c := gram.Copy(g)
	for i, name := range g.Nons {
		c.Nons[places[i]] = name
	}
	c.Start = moved(g.Start)
	for i, p := range c.Prods {
		c.Prods[i].Left = moved(p.Left)
		for j, sym := range p.Right {
			p.Right[j] = moved(sym)
		}
	}
	shuffled(r, c.Prods[1:])
	return c
}

// shuffled puts a list into another order.
func shuffled[T any](r func(n int) int, list []T) {
	for i := range list {
		j := i + r(len(list)-i)
		list[i], list[j] = list[j], list[i]
	}
}

// manySystems are the systems of some of so many grammars: of small ones, of such that have many states; half of them in an order of their own.
func manySystems(t *testing.T, count uint64, each func(r func(n int) int, s *forge.System)) {
	t.Helper()
	for seed := range count {
		r := source(seed)
		most := []sizes{{4, 3, 6, 4, 60}, {2, 5, 3, 3, 30}, {3, 6, 5, 2, 40}, {8, 10, 12, 5, 70}, {2, 2, 5, 160, 99}, {12, 16, 30, 4, 70}}[seed%6]
		s, m := forge.Of(somePlain(r, most))
		if m.Code != api.OK {
			continue
		}
		if r(2) == 0 {
			each(r, s)
			continue
		}
		if s, m = forge.Of(turnedAround(r, s.Grammar())); m.Code != api.OK {
			t.Fatalf("turned around it is no system's: %d", m.Code)
		}
		each(r, s)
	}
}

// P18.1 to P18.3: there and back

func TestManyThereAndBack(t *testing.T) {
	systems, big, open, clear, turned := 0, 0, 0, 0, 0
	manySystems(t, 1800, func(r func(n int) int, s *forge.System) {
		wantThereAndBack(t, s)
		systems++
		if p := s.Packed(); len(p.Defaults) > 128 || len(p.Actions.Values) > 255 {
			big++
		}
		if len(s.Settled().Conflicts) > 0 {
			open++
		}
		if s.Clear() {
			clear++
		}
		if s.Grammar().Start != len(s.Grammar().Terms)+1 {
			turned++
		}
	})
	if systems < 800 || big < 40 || open < 150 || clear < 150 || turned < 100 {
		t.Errorf("%d systems, %d big ones, %d with open cells, %d clear, %d whose start symbol is not the first", systems, big, open, clear, turned)
	}
}

// P18.3: one image just for one grammar

// rowsOf are all rows of at most two symbols, from 1 on, below a bound.
func rowsOf(symbols int) [][]int {
	all := [][]int{nil}
	for one := 1; one < symbols; one++ {
		all = append(all, []int{one})
		for other := 1; other < symbols; other++ {
			all = append(all, []int{one, other})
		}
	}
	return all
}

// smallGrammars are all plain grammars of one terminal, with productions of these nonterminals, by their numbers among them, and at most two symbols, from each start symbol.
func smallGrammars(each func(g api.Grammar), lefts ...int) {
	nons := slices.Max(lefts) + 1
	g := api.Grammar{Terms: []api.Term{{}, {Name: "x"}}, Nons: []string{"s", "a"}[:nons], Prods: make([]api.Prod, len(lefts))}
	rows := rowsOf(2 + nons)
	var fill func(i int)
	fill = func(i int) {
		if i == len(lefts) {
			for start := range nons {
				g.Start = 2 + start
				each(g)
			}
			return
		}
		for _, row := range rows {
			g.Prods[i] = api.Prod{Left: 2 + lefts[i], Right: row}
			fill(i + 1)
		}
	}
	fill(0)
}

// told are the images of grammars: one image a grammar, one grammar an image.
type told struct{ images, grammars map[string]string }

func (m told) want(t *testing.T, s *forge.System, b string) {
	t.Helper()
	g := toldGrammar(s.Grammar())
	if other, ok := m.images[g]; ok && other != b {
		t.Errorf("%s has the images %x and %x", g, b, other)
	}
	if other, ok := m.grammars[b]; ok && other != g {
		t.Errorf("%s and %s have one image", g, other)
	}
	m.images[g], m.grammars[b] = b, g
}

func TestOneImageAGrammar(t *testing.T) {
	m := told{map[string]string{}, map[string]string{}}
	systems := 0
	for _, lefts := range [][]int{{0}, {0, 0}, {0, 0, 0}, {0, 1}, {0, 0, 1}, {0, 1, 0}, {0, 1, 1}} {
		smallGrammars(func(g api.Grammar) {
			if s, mishap := forge.Of(g); mishap.Code == api.OK {
				m.want(t, s, wantThereAndBack(t, s))
				systems++
			}
		}, lefts...)
	}
	// What is of no use is gone, so that some systems have the same grammar.
	if systems < 3000 || len(m.images) < 2000 || len(m.images) == systems {
		t.Errorf("%d systems, %d images", systems, len(m.images))
	}
}

// turns are what may become another thing in a grammar that is a system's still; each tells whether there was such a thing.
var turns = []func(r func(n int) int, g *api.Grammar) bool{
	func(r func(n int) int, g *api.Grammar) bool { g.Terms[someTerm(r, g)].Name += "x"; return true },
	func(r func(n int) int, g *api.Grammar) bool { g.Nons[1+r(len(g.Nons)-1)] += "_"; return true },
	func(r func(n int) int, g *api.Grammar) bool {
		g.Terms[someTerm(r, g)].Level = r(len(g.Levels) + 1)
		return true
	},
	func(r func(n int) int, g *api.Grammar) bool {
		g.Prods[someProd(r, g)].Level = r(len(g.Levels) + 1)
		return true
	},
	func(r func(n int) int, g *api.Grammar) bool {
		if len(g.Levels) == 0 {
			return false
		}
		g.Levels[r(len(g.Levels))] = 1 + r(3)
		return true
	},
	func(r func(n int) int, g *api.Grammar) bool {
		g.Start = len(g.Terms) + 1 + r(len(g.Nons)-1)
		g.Prods[0].Right[0] = g.Start
		return true
	},
	func(r func(n int) int, g *api.Grammar) bool { shuffled(r, g.Prods[1:]); return true },
	func(r func(n int) int, g *api.Grammar) bool { shuffled(r, g.Nons[1:]); return true },
	func(r func(n int) int, g *api.Grammar) bool { shuffled(r, g.Terms[1:]); return true },
	func(r func(n int) int, g *api.Grammar) bool {
		prod := someProd(r, g)
		g.Prods = append(g.Prods[:prod], g.Prods[prod+1:]...)
		return true
	},
	func(r func(n int) int, g *api.Grammar) bool {
		g.Prods = append(g.Prods, api.Prod{Left: g.Prods[someProd(r, g)].Left, Right: []int{someTerm(r, g)}})
		return true
	},
	func(r func(n int) int, g *api.Grammar) bool {
		row := g.Prods[someProd(r, g)].Right
		if len(row) == 0 {
			return false
		}
		row[r(len(row))] = someTerm(r, g)
		return true
	},
}

func someTerm(r func(n int) int, g *api.Grammar) int { return 1 + r(len(g.Terms)-1) }

func someProd(r func(n int) int, g *api.Grammar) int { return 1 + r(len(g.Prods)-1) }

// Two grammars that are alike but for one thing have two images; systems of one grammar that were made apart have one.
func TestOtherGrammarsOtherImages(t *testing.T) {
	m := told{map[string]string{}, map[string]string{}}
	others := map[int]int{}
	manySystems(t, 240, func(r func(n int) int, s *forge.System) {
		if len(s.Grammar().Terms) == 1 {
			return
		}
		b, _ := image.Encode(s)
		m.want(t, s, b)
		again := systemBy(t, s.Grammar())
		b, _ = image.Encode(again)
		m.want(t, again, b)
		for i, turn := range turns {
			g := s.Grammar()
			if !turn(r, &g) {
				continue
			}
			if other, mishap := forge.Of(g); mishap.Code == api.OK {
				b, _ := image.Encode(other)
				m.want(t, other, b)
				if !gram.Same(g, s.Grammar()) {
					others[i]++
				}
			}
		}
	})
	for i := range turns {
		if others[i] < 10 {
			t.Errorf("%d grammars had thing %d turned", others[i], i)
		}
	}
}

// P18.3: a byte that is another one, a byte more, a byte less

func TestEveryByteTurned(t *testing.T) {
	for _, text := range []string{"s : 'x' ;", operators, less, "s : ;"} {
		b := wantThereAndBack(t, systemOf(t, text))
		for at := range len(b) {
			want := api.ErrSum
			if at < 5 {
				want = api.ErrHead
			}
			for by := 1; by < 256; by++ {
				other := []byte(b)
				other[at] ^= byte(by)
				wantNone(t, text+": a byte turned", string(other), want)
			}
		}
	}
}

// wantRefused wants of bytes that are no image what the document answers.
func wantRefused(t *testing.T, what, b string) {
	t.Helper()
	want, s := saidAnswer(b)
	if s != nil {
		t.Errorf("%s: %x is an image", what, b)
	}
	wantNone(t, what, b, want.code)
}

func TestAByteMoreOrLess(t *testing.T) {
	for _, text := range []string{"s : 'x' ;", operators, less, "s : ;"} {
		b := wantThereAndBack(t, systemOf(t, text))
		for at := range len(b) {
			wantRefused(t, text+": a byte less", b[:at]+b[at+1:])
		}
		for at := range len(b) + 1 {
			for by := range 256 {
				if at%7 == 0 || by < 16 || by == 255 {
					wantRefused(t, text+": a byte more", b[:at]+string([]byte{byte(by)})+b[at:])
				}
			}
		}
		for length := range len(b) {
			want := api.ErrSum
			if length < 5 {
				want = api.ErrHead
			}
			wantNone(t, text+": cut", b[:length], want)
		}
	}
}

func TestManyImagesTurned(t *testing.T) {
	systems := 0
	manySystems(t, 300, func(r func(n int) int, s *forge.System) {
		b, _ := image.Encode(s)
		systems++
		for range 60 {
			at := r(len(b))
			other := []byte(b)
			other[at] ^= byte(1 + r(255))
			want := api.ErrSum
			if at < 5 {
				want = api.ErrHead
			}
			wantNone(t, "a byte turned", string(other), want)
			wantRefused(t, "a byte less", b[:at]+b[at+1:])
			wantRefused(t, "a byte more", b[:at]+string([]byte{byte(r(256))})+b[at:])
		}
	})
	if systems < 100 {
		t.Errorf("%d systems were made", systems)
	}
}

// P18.2: bytes of all kinds

// wantAnswered wants of any bytes what the document answers, and counts why.
func wantAnswered(t *testing.T, b string, whys map[string]int) {
	t.Helper()
	want, s := saidAnswer(b)
	whys[want.why]++
	d, err := image.Decode(b)
	if err != want.code || (d == nil) != (s == nil) || d != nil && toldAll(d) != toldAll(s) {
		t.Errorf("Decode(%x) answers %v, %d; want %v", b, d != nil, err, want)
	}
}

// somehow are bytes that are like an image's: some turned, some taken out, some put in; a sum stands behind most.
func somehow(r func(n int) int, body string) string {
	for range 1 + r(2) {
		at := r(len(body))
		by := string([]byte{byte([]int{r(256), r(8), int(body[at]) + 1, int(body[at]) - 1}[r(4)])})
		body = body[:at] + []string{by, by, by, by + body[at:at+1], ""}[r(5)] + body[at+1:]
		if body == "" {
			body = "P"
		}
	}
	if r(20) == 0 {
		return body + "\x00\x00\x00\x00"
	}
	return sealed(body)
}

// Bytes that are sealed may be the image of another system: then they are read as that.
func TestManyBytes(t *testing.T) {
	whys := map[string]int{}
	manySystems(t, 600, func(r func(n int) int, s *forge.System) {
		if len(s.Automaton().States) > 40 {
			return
		}
		b, _ := image.Encode(s)
		for range 20 {
			wantAnswered(t, somehow(r, b[:len(b)-4]), whys)
		}
	})
	// Small ones, more often.
	for seed := range uint64(6000) {
		r := source(seed)
		s := systemOf(t, []string{"s : 'x' ;", "s : ;", "%left x; s : x | s x ;", "s : 'x' | 'x' ;"}[seed%4])
		b, _ := image.Encode(s)
		wantAnswered(t, somehow(r, b[:len(b)-4]), whys)
	}
	for why, least := range map[string]int{"": 180, "another head": 500, "another sum": 300, "the bytes end too early": 600, "the grammar is no system's": 1500, "another rest": 3000} {
		if whys[why] < least {
			t.Errorf("%q was answered but %d times", why, whys[why])
		}
	}
}

// Bytes by chance, with a head and a sum.
func TestBytesByChance(t *testing.T) {
	whys := map[string]int{}
	for seed := range uint64(20000) {
		r := source(seed)
		var body strings.Builder
		most := []int{2, 4, 256}[seed%3]
		for range r(40) {
			body.WriteByte(byte(r(most)))
		}
		wantAnswered(t, sealed(saidHead+body.String()), whys)
	}
	for why, least := range map[string]int{"the bytes end too early": 5000, "the grammar is no system's": 1000} {
		if whys[why] < least {
			t.Errorf("%q was answered but %d times", why, whys[why])
		}
	}
}
