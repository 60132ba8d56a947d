package show_test

import (
	"math"
	"runtime"
	"strconv"
	"strings"
	"testing"
	"unsafe"

	"presage/api"
	"presage/gram"
	"presage/show"
	"presage/spec"
)

// short is a text as a test's message tells it.
func short(text string) string {
	if len(text) > 300 {
		return strconv.Quote(text[:300]) + ".. of " + strconv.Itoa(len(text)) + " bytes"
	}
	return strconv.Quote(text)
}

func wantText(t *testing.T, what, want string) func(text string, err api.Errno) {
	t.Helper()
	return func(text string, err api.Errno) {
		t.Helper()
		if err != api.OK || text != want {
			t.Errorf("%s is %s, %d; want %s", what, short(text), err, short(want))
		}
	}
}

func wantError(t *testing.T, what string, want api.Errno) func(text string, err api.Errno) {
	t.Helper()
	return func(text string, err api.Errno) {
		t.Helper()
		if err != want || text != "" {
			t.Errorf("%s is %s, %d; want error %d alone", what, short(text), err, want)
		}
	}
}

// wantLines wants that a grammar's text is these lines, each with a line's end.
func wantLines(t *testing.T, g api.Grammar, lines ...string) {
	t.Helper()
	text, err := show.Text(g)
	wantText(t, "Text", strings.Join(lines, "\n")+"\n")(text, err)
}

// read is the grammar of a text.
func read(t *testing.T, text string) api.Grammar {
	t.Helper()
	g, mishap := spec.Read(text)
	if mishap.Code != api.OK {
		t.Fatalf("Read(%s) answers %v", short(text), mishap)
	}
	return g
}

// closedOf adds the added one and the added production to a plain grammar.
func closedOf(g api.Grammar) api.Grammar {
	first := len(g.Terms)
	moved := func(sym int) int {
		if sym >= first {
			return sym + 1
		}
		return sym
	}
	c := api.Grammar{Terms: g.Terms, Levels: g.Levels, Start: moved(g.Start)}
	c.Nons = append([]string{""}, g.Nons...)
	c.Prods = []api.Prod{{Left: first, Right: []int{c.Start}}}
	for _, p := range g.Prods {
		var right []int
		for _, sym := range p.Right {
			right = append(right, moved(sym))
		}
		c.Prods = append(c.Prods, api.Prod{Left: moved(p.Left), Right: right, Level: p.Level})
	}
	return c
}

// sums is the grammar of the chapter's examples: + 1, * 2, i 3, E 4, X 5.
func sums() api.Grammar {
	return api.Grammar{
		Terms:  []api.Term{{}, {Name: "+", Level: 1}, {Name: "*", Level: 2}, {Name: "i"}},
		Nons:   []string{"E", "X"},
		Levels: []int{api.Left, api.Left},
		Start:  4,
		Prods:  []api.Prod{{Left: 4, Right: []int{4, 1, 4}, Level: 2}, {Left: 4, Right: []int{3}}, {Left: 5}},
	}
}

// calls are all calls, at arguments that are right for sums and for what is closed of it.
func calls(g api.Grammar) map[string]func() (string, api.Errno) {
	return map[string]func() (string, api.Errno){
		"Text":   func() (string, api.Errno) { return show.Text(g) },
		"Symbol": func() (string, api.Errno) { return show.Symbol(g, 1) },
		"Row":    func() (string, api.Errno) { return show.Row(g, 1, 4) },
		"no Row": func() (string, api.Errno) { return show.Row(g) },
		"Prod":   func() (string, api.Errno) { return show.Prod(g, 1) },
		"Item":   func() (string, api.Errno) { return show.Item(g, api.Item{Prod: 1, Dot: 1}) },
	}
}

// far are numbers of nothing in any grammar.
var far = []int{math.MinInt, math.MinInt + 1, -1 << 32, -2, -1, 1 << 32, math.MaxInt - 1, math.MaxInt}

// P5.1

func TestSmallTextsOfTheExamples(t *testing.T) {
	g := sums()
	text, err := show.Prod(g, 0)
	wantText(t, "Prod 0", "E -> E '+' E")(text, err)
	text, err = show.Item(g, api.Item{Prod: 0, Dot: 1})
	wantText(t, "Item {0 1}", "E -> E . '+' E")(text, err)
	text, err = show.Item(g, api.Item{Prod: 0, Dot: 3})
	wantText(t, "Item {0 3}", "E -> E '+' E .")(text, err)
	text, err = show.Prod(g, 2)
	wantText(t, "Prod 2", "X ->")(text, err)
	text, err = show.Item(g, api.Item{Prod: 2})
	wantText(t, "Item {2 0}", "X -> .")(text, err)
	text, err = show.Symbol(g, 0)
	wantText(t, "Symbol 0", "$end")(text, err)
	text, err = show.Row(g)
	wantText(t, "Row of none", "")(text, err)
	text, err = show.Row(g, 0, 1, 4)
	wantText(t, "Row(0, 1, 4)", "$end '+' E")(text, err)
	text, err = show.Item(g, api.Item{Prod: 0, Dot: 4})
	wantError(t, "Item {0 4}", api.ErrArg)(text, err)
	text, err = show.Symbol(g, 6)
	wantError(t, "Symbol 6", api.ErrArg)(text, err)
	text, err = show.Prod(g, -1)
	wantError(t, "Prod -1", api.ErrArg)(text, err)
}

func TestSymbols(t *testing.T) {
	plain := read(t, "%token '+' e '$end' ' ' '->' '.' '$start'; e : f 'f' ; f : ; _9 : ;")
	closed := closedOf(plain)
	ofBoth := []string{"$end", "'+'", "'e'", "'$end'", "' '", "'->'", "'.'", "'$start'", "'f'"}
	ofPlain := append(append([]string{}, ofBoth...), "e", "f", "_9")
	ofClosed := append(append([]string{}, ofBoth...), "$start", "e", "f", "_9")
	for _, c := range []struct {
		g     api.Grammar
		texts []string
	}{{plain, ofPlain}, {closed, ofClosed}} {
		var all []int
		for sym, want := range c.texts {
			all = append(all, sym)
			text, err := show.Symbol(c.g, sym)
			wantText(t, "Symbol "+strconv.Itoa(sym), want)(text, err)
			text, err = show.Row(c.g, sym)
			wantText(t, "Row of "+strconv.Itoa(sym), want)(text, err)
			text, err = show.Row(c.g, sym, sym)
			wantText(t, "Row of twice "+strconv.Itoa(sym), want+" "+want)(text, err)
		}
		text, err := show.Row(c.g, all...)
		wantText(t, "Row of all", strings.Join(c.texts, " "))(text, err)
		for _, sym := range append([]int{len(c.texts), len(c.texts) + 1}, far...) {
			text, err := show.Symbol(c.g, sym)
			wantError(t, "Symbol "+strconv.Itoa(sym), api.ErrArg)(text, err)
			for i := range all {
				row := append([]int{}, all...)
				row[i] = sym
				text, err = show.Row(c.g, row...)
				wantError(t, "Row with "+strconv.Itoa(sym), api.ErrArg)(text, err)
			}
			text, err = show.Row(c.g, sym)
			wantError(t, "Row of "+strconv.Itoa(sym), api.ErrArg)(text, err)
		}
	}
}

func TestNamesAreToldWhole(t *testing.T) {
	term, non := strings.Repeat("~", api.MaxName), strings.Repeat("n", api.MaxName)
	g := api.Grammar{Terms: []api.Term{{}, {Name: term}}, Nons: []string{non}, Start: 2, Prods: []api.Prod{{Left: 2, Right: []int{1, 2}}}}
	text, err := show.Item(g, api.Item{Dot: 1})
	wantText(t, "Item", non+" -> '"+term+"' . "+non)(text, err)
}

func TestProductionsAndItems(t *testing.T) {
	plain := read(t, "%left '+'; e : e '+' t %none | t ; t : n | %prec '+' ; t : t t 't' 't' ;")
	texts := []string{"e -> e '+' t", "e -> t", "t -> 'n'", "t ->", "t -> t t 't' 't'"}
	for _, c := range []struct {
		g     api.Grammar
		texts []string
	}{{plain, texts}, {closedOf(plain), append([]string{"$start -> e"}, texts...)}} {
		for prod, want := range c.texts {
			name := strconv.Itoa(prod)
			text, err := show.Prod(c.g, prod)
			wantText(t, "Prod "+name, want)(text, err)
			words := strings.Split(want, " ")
			for dot := range len(words) - 1 {
				withDot := strings.Join(words[:2+dot], " ") + " ."
				if dot < len(words)-2 {
					withDot += " " + strings.Join(words[2+dot:], " ")
				}
				text, err = show.Item(c.g, api.Item{Prod: prod, Dot: dot})
				wantText(t, "Item of "+name+" at "+strconv.Itoa(dot), withDot)(text, err)
			}
			for _, dot := range append([]int{len(words) - 1, len(words)}, far...) {
				text, err = show.Item(c.g, api.Item{Prod: prod, Dot: dot})
				wantError(t, "Item of "+name+" at "+strconv.Itoa(dot), api.ErrArg)(text, err)
			}
		}
		for _, prod := range append([]int{len(c.texts), len(c.texts) + 1}, far...) {
			text, err := show.Prod(c.g, prod)
			wantError(t, "Prod "+strconv.Itoa(prod), api.ErrArg)(text, err)
			for _, dot := range append([]int{0, 1}, far...) {
				text, err = show.Item(c.g, api.Item{Prod: prod, Dot: dot})
				wantError(t, "Item of "+strconv.Itoa(prod), api.ErrArg)(text, err)
			}
		}
	}
}

func TestSmallTextsMayBeLong(t *testing.T) {
	row := make([]int, 1<<20)
	g := api.Grammar{Terms: []api.Term{{}}, Nons: []string{"s"}, Start: 1, Prods: []api.Prod{{Left: 1, Right: row}}}
	for i := range row {
		row[i] = 1
	}
	long := strings.Repeat(" s", len(row))
	text, err := show.Row(g, row...)
	wantText(t, "Row", long[1:])(text, err)
	text, err = show.Prod(g, 0)
	wantText(t, "Prod", "s ->"+long)(text, err)
	text, err = show.Item(g, api.Item{Dot: len(row)})
	wantText(t, "Item", "s ->"+long+" .")(text, err)
	g.Prods[0].Right = nil
	row[len(row)-1] = 2
	text, err = show.Row(g, row...)
	wantError(t, "Row with a symbol that is none at its end", api.ErrArg)(text, err)
}

// P5.1, P5.2

func TestGrammarsThatMayNotBe(t *testing.T) {
	for what, spoil := range map[string]func(g *api.Grammar){
		"nothing":                    func(g *api.Grammar) { *g = api.Grammar{} },
		"no terminals":               func(g *api.Grammar) { g.Terms = nil },
		"no end marker":              func(g *api.Grammar) { g.Terms[0].Name = "x" },
		"an end marker with a level": func(g *api.Grammar) { g.Terms[0].Level = 1 },
		"a quote in a terminal":      func(g *api.Grammar) { g.Terms[1].Name = "'" },
		"an empty terminal":          func(g *api.Grammar) { g.Terms[3].Name = "" },
		"a long terminal":            func(g *api.Grammar) { g.Terms[1].Name = strings.Repeat("x", 17) },
		"two terminals alike":        func(g *api.Grammar) { g.Terms[1].Name = "*" },
		"a terminal's level too low": func(g *api.Grammar) { g.Terms[3].Level = -1 },
		"one too high":               func(g *api.Grammar) { g.Terms[3].Level = 3 },
		"no nonterminals":            func(g *api.Grammar) { g.Nons = nil },
		"a nonterminal that is none": func(g *api.Grammar) { g.Nons[len(g.Nons)-1] = "1" },
		"an empty nonterminal":       func(g *api.Grammar) { g.Nons[len(g.Nons)-1] = "" },
		"two nonterminals alike":     func(g *api.Grammar) { g.Nons[len(g.Nons)-1] = "E" },
		"one nonterminal too many":   func(g *api.Grammar) { g.Nons = append(g.Nons, "Y") },
		"a level without terminals":  func(g *api.Grammar) { g.Levels = append(g.Levels, api.Left) },
		"a side that is none":        func(g *api.Grammar) { g.Levels[1] = 4 },
		"no productions":             func(g *api.Grammar) { g.Prods = nil },
		"a left that is a terminal":  func(g *api.Grammar) { g.Prods[1].Left = 1 },
		"a left that is nothing":     func(g *api.Grammar) { g.Prods[1].Left = math.MinInt },
		"the end marker in a right":  func(g *api.Grammar) { g.Prods[1].Right[0] = 0 },
		"no symbol in a right":       func(g *api.Grammar) { g.Prods[1].Right[0] = math.MaxInt },
		"a production's level":       func(g *api.Grammar) { g.Prods[1].Level = 3 },
		"a start that is a terminal": func(g *api.Grammar) { g.Start = 1 },
		"a start that is nothing":    func(g *api.Grammar) { g.Start = math.MinInt },
	} {
		for kind, g := range map[string]api.Grammar{"plain": gram.Copy(sums()), "closed": gram.Copy(closedOf(sums()))} {
			spoil(&g)
			for call, answer := range calls(g) {
				text, err := answer()
				wantError(t, call+" of a "+kind+" grammar with "+what, api.ErrArg)(text, err)
			}
		}
	}
}

func TestWhatIsNearlyPlainOrClosed(t *testing.T) {
	plain, closed := sums(), closedOf(sums())
	for what, g := range map[string]api.Grammar{
		"nonterminals out of order": {Terms: plain.Terms, Nons: []string{"X", "E"}, Levels: plain.Levels, Start: 5, Prods: []api.Prod{{Left: 5, Right: []int{3}}, {Left: 4}}},
		"an added one alone":        {Terms: plain.Terms, Nons: closed.Nons, Levels: plain.Levels, Start: 5, Prods: closed.Prods[1:]},
		"an added one that starts":  {Terms: plain.Terms, Nons: closed.Nons, Levels: plain.Levels, Start: 4, Prods: closed.Prods},
		"an added one with a level": {Terms: plain.Terms, Nons: closed.Nons, Levels: plain.Levels, Start: 5, Prods: append([]api.Prod{{Left: 4, Right: []int{5}, Level: 1}}, closed.Prods[1:]...)},
		"an added one in a right":   {Terms: plain.Terms, Nons: closed.Nons, Levels: plain.Levels, Start: 5, Prods: append(closed.Prods[:2:2], api.Prod{Left: 6, Right: []int{4}})},
		"an added one twice a left": {Terms: plain.Terms, Nons: closed.Nons, Levels: plain.Levels, Start: 5, Prods: append(closed.Prods[:4:4], closed.Prods[0])},
	} {
		for call, answer := range calls(g) {
			text, err := answer()
			wantError(t, call+" of one with "+what, api.ErrArg)(text, err)
		}
	}
}

// What is too long and may not be is answered by what is named first.
func TestMayNotBeComesAheadOfTooBig(t *testing.T) {
	g := sums()
	g.Prods[1].Right = make([]int, 3*api.MaxText)
	text, err := show.Text(g)
	wantError(t, "Text with end markers in a right", api.ErrArg)(text, err)
}

// P5.2

func TestTextOfTheExample(t *testing.T) {
	g := sums()
	g.Nons, g.Prods = g.Nons[:1], g.Prods[:2]
	wantLines(t, g, "%token '+' '*' 'i' ;", "%left '+' ;", "%left '*' ;", "%start E ;", "E : E '+' E %prec '*' ;", "E : 'i' ;")
}

func TestTokensStandInALineIfThereAreAny(t *testing.T) {
	wantLines(t, read(t, "s : ;"), "%start s ;", "s : ;")
	wantLines(t, closedOf(read(t, "s : s s | ;")), "%start s ;", "s : s s ;", "s : ;")
	wantLines(t, read(t, "s : x ;"), "%token 'x' ;", "%start s ;", "s : 'x' ;")
	wantLines(t, read(t, "%token c 'a b' ';' ; s : b ;"), "%token 'c' 'a b' ';' 'b' ;", "%start s ;", "s : 'b' ;")
}

func TestLevelsStandInLines(t *testing.T) {
	g := read(t, "%token z y x w; %nonassoc y w; %left v; %right x u z; s : ;")
	lines := []string{"%token 'z' 'y' 'x' 'w' 'v' 'u' ;", "%nonassoc 'y' 'w' ;", "%left 'v' ;", "%right 'z' 'x' 'u' ;", "%start s ;", "s : ;"}
	wantLines(t, g, lines...)
	wantLines(t, closedOf(g), lines...)
}

func TestStartStandsInALine(t *testing.T) {
	for _, start := range []string{"a", "b", "c"} {
		g := read(t, "%start "+start+"; a : ; b : ; c : ;")
		wantLines(t, g, "%start "+start+" ;", "a : ;", "b : ;", "c : ;")
		wantLines(t, closedOf(g), "%start "+start+" ;", "a : ;", "b : ;", "c : ;")
	}
}

func TestProductionsStandInTheirOrder(t *testing.T) {
	g := read(t, "s : r | ; r : s 's' 'r' r ; s : x | x ;")
	lines := []string{"%token 's' 'r' 'x' ;", "%start s ;", "s : r ;", "s : ;", "r : s 's' 'r' r ;", "s : 'x' ;", "s : 'x' ;"}
	wantLines(t, g, lines...)
	wantLines(t, closedOf(g), lines...)
}

func TestLevelsOfProductions(t *testing.T) {
	const headers = "%token a b c d e; %left d; %right b a; %nonassoc e; s : "
	lines := []string{"%token 'a' 'b' 'c' 'd' 'e' ;", "%left 'd' ;", "%right 'a' 'b' ;", "%nonassoc 'e' ;", "%start s ;"}
	for row, want := range map[string]string{
		"":              "s : ;",
		"%none":         "s : ;",
		"%prec c":       "s : ;",
		"%prec d":       "s : %prec 'd' ;",
		"%prec b":       "s : %prec 'a' ;",
		"s":             "s : s ;",
		"s %none":       "s : s ;",
		"s %prec e":     "s : s %prec 'e' ;",
		"b":             "s : 'b' ;",
		"b %prec a":     "s : 'b' ;",
		"a %prec b":     "s : 'a' ;",
		"b s s":         "s : 'b' s s ;",
		"b s %none":     "s : 'b' s %none ;",
		"b %prec c":     "s : 'b' %none ;",
		"b %prec d":     "s : 'b' %prec 'd' ;",
		"d %prec b":     "s : 'd' %prec 'a' ;",
		"e s a":         "s : 'e' s 'a' ;",
		"e s a %prec e": "s : 'e' s 'a' %prec 'e' ;",
		"a e":           "s : 'a' 'e' ;",
		"a e %prec a":   "s : 'a' 'e' %prec 'a' ;",
		"e c":           "s : 'e' 'c' ;",
		"e c %none":     "s : 'e' 'c' ;",
		"e c %prec e":   "s : 'e' 'c' %prec 'e' ;",
		"c s":           "s : 'c' s ;",
		"c e %none":     "s : 'c' 'e' %none ;",
	} {
		g := read(t, headers+row+" ;")
		wantLines(t, g, append(lines[:5:5], want)...)
		wantLines(t, closedOf(g), append(lines[:5:5], want)...)
	}
}

func TestTextOfAClosedGrammarOfItsOwnOrder(t *testing.T) {
	g := api.Grammar{
		Terms:  []api.Term{{}, {Name: "x", Level: 1}},
		Nons:   []string{"", "b", "a"},
		Levels: []int{api.Neither},
		Start:  4,
		Prods:  []api.Prod{{Left: 2, Right: []int{4}}, {Left: 4, Right: []int{3, 1}}, {Left: 3, Right: []int{1}, Level: 1}},
	}
	wantLines(t, g, "%token 'x' ;", "%nonassoc 'x' ;", "%start a ;", "a : b 'x' %none ;", "b : 'x' ;")
}

func TestTheGreatestGrammars(t *testing.T) {
	g := api.Grammar{Terms: []api.Term{{}}}
	tokens, levels := "%token", []string{}
	for i := range 32 {
		name := strings.Repeat("t", 14) + strconv.Itoa(10+i)
		g.Terms = append(g.Terms, api.Term{Name: name, Level: i + 1})
		g.Levels = append(g.Levels, 1+i%3)
		tokens += " '" + name + "'"
		levels = append(levels, []string{"%left", "%right", "%nonassoc"}[i%3]+" '"+name+"' ;")
	}
	lines := append([]string{tokens + " ;"}, levels...)
	for i := range 32 {
		g.Nons = append(g.Nons, "n"+strconv.Itoa(i))
	}
	g.Start = 64
	lines = append(lines, "%start n31 ;")
	for i := range api.MaxProds {
		g.Prods = append(g.Prods, api.Prod{Left: 33 + i%32, Right: []int{1 + i%32}, Level: 1 + (i+1)%32})
		lines = append(lines, "n"+strconv.Itoa(i%32)+" : '"+g.Terms[1+i%32].Name+"' %prec '"+g.Terms[1+(i+1)%32].Name+"' ;")
	}
	wantLines(t, g, lines...)
	wantLines(t, closedOf(g), lines...)
}

// longOf is a grammar whose text has so many bytes: 40 or more.
func longOf(t *testing.T, length int) api.Grammar {
	t.Helper()
	// An odd length needs a terminal's text of two bytes.
	g := api.Grammar{Terms: []api.Term{{}, {Name: strings.Repeat("x", 1+length%2)}}, Nons: []string{"s"}, Start: 2, Prods: []api.Prod{{Left: 2}}}
	text, _ := show.Text(g)
	for range (length - len(text)) / 2 {
		g.Prods[0].Right = append(g.Prods[0].Right, 2)
	}
	return g
}

func TestTextsAreAtMostMaxText(t *testing.T) {
	for _, length := range []int{40, 41, 8190, 8191, 8192} {
		for kind, g := range map[string]api.Grammar{"plain": longOf(t, length), "closed": closedOf(longOf(t, length))} {
			text, err := show.Text(g)
			if err != api.OK || len(text) != length || !strings.HasSuffix(text, " s s ;\n") {
				t.Errorf("Text of a %s grammar is %s, %d; want %d bytes", kind, short(text), err, length)
			}
		}
	}
	for _, length := range []int{8193, 8194, 8195, 10000, 16383, 16384, 16385, 16450, 50001} {
		for kind, g := range map[string]api.Grammar{"plain": longOf(t, length), "closed": closedOf(longOf(t, length))} {
			text, err := show.Text(g)
			wantError(t, "Text of a "+kind+" grammar, of "+strconv.Itoa(length)+" bytes", api.ErrTooBig)(text, err)
		}
	}
}

func TestTheLastLineMayBeTheOneTooMany(t *testing.T) {
	g := longOf(t, api.MaxText)
	g.Prods = append(g.Prods, api.Prod{Left: 2})
	text, err := show.Text(g)
	wantError(t, "Text with a line more", api.ErrTooBig)(text, err)
	g = longOf(t, api.MaxText)
	g.Terms[1].Level, g.Levels = 1, []int{api.Left}
	text, err = show.Text(g)
	wantError(t, "Text with a level more", api.ErrTooBig)(text, err)
}

// R1: what shares memory may stand for far more than there is.
func TestRightsThatShareMemory(t *testing.T) {
	g := api.Grammar{Terms: []api.Term{{}, {Name: strings.Repeat("x", api.MaxName)}}, Nons: []string{"s"}, Start: 2}
	row := make([]int, 1<<20)
	for i := range row {
		row[i] = 1
	}
	for range api.MaxProds {
		g.Prods = append(g.Prods, api.Prod{Left: 2, Right: row})
	}
	var before, behind runtime.MemStats
	runtime.ReadMemStats(&before)
	text, err := show.Text(g)
	runtime.ReadMemStats(&behind)
	wantError(t, "Text", api.ErrTooBig)(text, err)
	if bytes := behind.TotalAlloc - before.TotalAlloc; bytes > 1<<20 {
		t.Errorf("Text takes %d bytes to tell that the text is too long", bytes)
	}
	for i := range g.Prods {
		g.Prods[i].Right = row[:2]
	}
	if text, err = show.Text(g); err != api.OK || strings.Count(text, "\n") != 98 {
		t.Errorf("Text of productions that share their rows is %s, %d", short(text), err)
	}
}

// R3

func TestTextsAreNewMemory(t *testing.T) {
	names := []string{strings.Repeat("n", 12), strings.Repeat("t", 12)}
	g := api.Grammar{Terms: []api.Term{{}, {Name: names[1]}}, Nons: []string{names[0]}, Start: 2, Prods: []api.Prod{{Left: 2, Right: []int{2, 1}}}}
	for _, sym := range []int{1, 2} {
		text, _ := show.Symbol(g, sym)
		at := uintptr(unsafe.Pointer(unsafe.StringData(text)))
		for _, name := range names {
			first := uintptr(unsafe.Pointer(unsafe.StringData(name)))
			if at >= first && at < first+uintptr(len(name)) {
				t.Errorf("%q lies in a name that was handed in", text)
			}
		}
	}
}

func TestWhatIsHandedInIsNotChanged(t *testing.T) {
	for _, g := range []api.Grammar{sums(), closedOf(sums())} {
		for i := range g.Prods {
			g.Prods[i].Right = append(make([]int, 0, 9), g.Prods[i].Right...)
			copy(g.Prods[i].Right[len(g.Prods[i].Right):9], []int{7, 7, 7})
		}
		row := append(make([]int, 0, 5), 1, 4, 2)
		copy(row[3:5], []int{7, 7})
		want := gram.Copy(g)
		for _, answer := range calls(g) {
			answer()
		}
		show.Row(g, row...)
		show.Item(g, api.Item{Prod: 1, Dot: 1})
		if !gram.Same(g, want) {
			t.Errorf("the grammar became %v, it was %v", g, want)
		}
		if row = row[:5]; row[0] != 1 || row[1] != 4 || row[2] != 2 || row[3] != 7 || row[4] != 7 {
			t.Errorf("the row became %v", row)
		}
		for i, p := range g.Prods {
			if n := len(p.Right); n < 4 && (p.Right[:9][n] != 7 || p.Right[:9][n+2] != 7) {
				t.Errorf("the spare room of production %d became %v", i, p.Right[:9])
			}
		}
	}
}
