package show_test

import (
	"slices"
	"strconv"
	"strings"
	"testing"

	"presage/api"
	"presage/gram"
	"presage/show"
	"presage/spec"
)

// source gives numbers below n that hang on the seed alone.
func source(seed uint64) func(n int) int {
	state := seed*2 + 1
	return func(n int) int {
		state = state*6364136223846793005 + 1442695040888963407
		return int(state>>33) % n
	}
}

// Texts that a reader could take for something else, were they not between quotes, and names that nonterminals may have as well.
var someTexts = []string{"a", "b", "_", "s1", "#", ";", ":", "|", " ", "%left", "%prec", "$end", "$start", "->", ".", "\"", "%none ;", "a b", "0123456789abcdef", "~"}
var someNames = []string{"a", "b", "_", "s1", "Z", "token", "e_9", "ABCDEFGHIJKLMNOP"}

// shuffled are the first so many of these texts, in another order.
func shuffled(r func(int) int, texts []string, n int) []string {
	texts = slices.Clone(texts)
	for i := range texts {
		j := i + r(len(texts)-i)
		texts[i], texts[j] = texts[j], texts[i]
	}
	return texts[:n]
}

// somePlain is a plain grammar.
func somePlain(r func(int) int) api.Grammar {
	g := api.Grammar{Terms: []api.Term{{}}}
	for _, text := range shuffled(r, someTexts, r(7)) {
		g.Terms = append(g.Terms, api.Term{Name: text})
	}
	for _, i := range someOrder(r, len(g.Terms)) {
		if r(2) == 0 {
			g.Levels = append(g.Levels, 1+r(3))
			g.Terms[i].Level = len(g.Levels)
		} else {
			g.Terms[i].Level = r(len(g.Levels) + 1)
		}
	}
	for i, name := range shuffled(r, someNames, 1+r(4)) {
		g.Nons = append(g.Nons, name)
		g.Prods = append(g.Prods, api.Prod{Left: len(g.Terms) + i})
		for range r(3) {
			g.Prods = append(g.Prods, api.Prod{Left: len(g.Terms) + r(i+1)})
		}
	}
	for p := range g.Prods {
		for range r(5) {
			g.Prods[p].Right = append(g.Prods[p].Right, 1+r(len(g.Terms)+len(g.Nons)-1))
		}
		g.Prods[p].Level = r(len(g.Levels) + 1)
	}
	g.Start = len(g.Terms) + r(len(g.Nons))
	return g
}

// someOrder are the numbers from 1 to below n, in some order: levels need not rise with their terminals.
func someOrder(r func(int) int, n int) []int {
	var numbers []int
	for i := 1; i < n; i++ {
		numbers = slices.Insert(numbers, r(len(numbers)+1), i)
	}
	return numbers
}

// said is the document's text of a grammar, told a second time: from a list of lines, each a list of words.
func said(g api.Grammar, closed bool) string {
	words := []string{"$end"}
	for _, term := range g.Terms[1:] {
		words = append(words, "'"+term.Name+"'")
	}
	words = append(words, g.Nons...)
	ofLevel := map[int][]string{}
	for i, term := range g.Terms[1:] {
		ofLevel[term.Level] = append(ofLevel[term.Level], words[i+1])
	}
	var lines [][]string
	if len(g.Terms) > 1 {
		lines = append(lines, append([]string{"%token"}, words[1:len(g.Terms)]...))
	}
	for i, side := range g.Levels {
		order := map[int]string{api.Left: "%left", api.Right: "%right", api.Neither: "%nonassoc"}[side]
		lines = append(lines, append([]string{order}, ofLevel[i+1]...))
	}
	lines = append(lines, []string{"%start", words[g.Start]})
	for i, p := range g.Prods {
		if i == 0 && closed {
			continue
		}
		line := []string{words[p.Left], ":"}
		byRow := 0
		for _, sym := range slices.Backward(p.Right) {
			if sym < len(g.Terms) {
				byRow = g.Terms[sym].Level
				break
			}
		}
		for _, sym := range p.Right {
			line = append(line, words[sym])
		}
		if p.Level != byRow && p.Level == 0 {
			line = append(line, "%none")
		} else if p.Level != byRow {
			line = append(line, "%prec", ofLevel[p.Level][0])
		}
		lines = append(lines, line)
	}
	text := ""
	for _, line := range lines {
		text += strings.Join(append(line, ";"), " ") + "\n"
	}
	return text
}

// told is a grammar field by field, told without gram.
func told(g api.Grammar) string {
	var s strings.Builder
	for _, term := range g.Terms {
		s.WriteString("t" + strconv.Quote(term.Name) + strconv.Itoa(term.Level))
	}
	for _, name := range g.Nons {
		s.WriteString("n" + strconv.Quote(name))
	}
	for _, side := range g.Levels {
		s.WriteString("l" + strconv.Itoa(side))
	}
	s.WriteString("s" + strconv.Itoa(g.Start))
	for _, p := range g.Prods {
		s.WriteString("p" + strconv.Itoa(p.Left) + ":")
		for _, sym := range p.Right {
			s.WriteString(strconv.Itoa(sym) + ",")
		}
		s.WriteString("g" + strconv.Itoa(p.Level))
	}
	return s.String()
}

// unlike looks whether each text is one grammar's alone, and each grammar has one text.
type unlike struct{ grammars, texts map[string]string }

func newUnlike() unlike { return unlike{map[string]string{}, map[string]string{}} }

func (u unlike) want(t *testing.T, g api.Grammar, text string) {
	t.Helper()
	fields := told(g)
	if other, there := u.grammars[text]; there && other != fields {
		t.Errorf("%s and %s have the same text %s", other, fields, short(text))
	}
	if other, there := u.texts[fields]; there && other != text {
		t.Errorf("%s has two texts, %s and %s", fields, short(other), short(text))
	}
	u.grammars[text], u.texts[fields] = fields, text
}

// wantThereAndBack wants that a plain grammar's text is read as that grammar, and tells it.
func wantThereAndBack(t *testing.T, g api.Grammar) string {
	t.Helper()
	text, err := show.Text(g)
	if err != api.OK {
		t.Errorf("Text of %v answers %d", g, err)
		return ""
	}
	if again, mishap := spec.Read(text); mishap.Code != api.OK || told(again) != told(g) || !gram.Same(again, g) {
		t.Errorf("Read(%s) is %v, %v; want %v", short(text), again, mishap, g)
	}
	return text
}

// P5.2, P5.3

func TestTextsOfManyGrammars(t *testing.T) {
	u := newUnlike()
	for seed := range uint64(20000) {
		g := somePlain(source(seed))
		if !gram.Valid(g) {
			t.Fatalf("%v is not plain", g)
		}
		text := wantThereAndBack(t, g)
		u.want(t, g, text)
		if want := said(g, false); text != want {
			t.Errorf("Text of %v is\n%s, want\n%s", g, text, want)
		}
		c := closedOf(g)
		if text, err := show.Text(c); err != api.OK || text != said(c, true) || text != said(g, false) {
			t.Errorf("Text of %v is\n%s, %d; want\n%s", c, text, err, said(c, true))
		}
	}
	if len(u.texts) < 15000 {
		t.Errorf("only %d of the grammars were unlike", len(u.texts))
	}
}

// smallGrammars are plain grammars of at most two terminals, two nonterminals and two productions of at most two symbols, with all levels.
func smallGrammars(each func(g api.Grammar)) {
	terms := [][]api.Term{{{}}}
	for _, first := range []string{"a", "b"} {
		for one := range 3 {
			terms = append(terms, []api.Term{{}, {Name: first, Level: one}})
			for two := range 3 {
				terms = append(terms, []api.Term{{}, {Name: first, Level: one}, {Name: "s", Level: two}})
			}
		}
	}
	sides := [][]int{nil, {1}, {2}, {3}, {1, 1}, {1, 2}, {3, 1}}
	nons := [][]string{{"a"}, {"s"}, {"s", "a"}}
	for _, ts := range terms {
		for _, ls := range sides {
			for _, ns := range nons {
				rows := rowsOf(len(ts) + len(ns))
				for start := range ns {
					g := api.Grammar{Terms: ts, Nons: ns, Levels: ls, Start: len(ts) + start}
					smallProds(g, rows, each)
				}
			}
		}
	}
}

// rowsOf are the rows of at most two symbols below n, the end marker not.
func rowsOf(n int) [][]int {
	rows := [][]int{nil}
	for a := 1; a < n; a++ {
		rows = append(rows, []int{a})
		for b := 1; b < n; b++ {
			rows = append(rows, []int{a, b})
		}
	}
	return rows
}

func smallProds(g api.Grammar, rows [][]int, each func(g api.Grammar)) {
	last := len(g.Terms) + len(g.Nons) - 1
	for _, row := range rows {
		for level := range len(g.Levels) + 1 {
			p := api.Prod{Left: last, Right: row, Level: level}
			for _, ahead := range [][]api.Prod{nil, {{Left: len(g.Terms)}}} {
				g.Prods = append(slices.Clone(ahead), p)
				if gram.Valid(g) {
					each(g)
				}
			}
		}
	}
}

func TestTextsOfSmallGrammars(t *testing.T) {
	u := newUnlike()
	count := 0
	smallGrammars(func(g api.Grammar) {
		count++
		u.want(t, g, wantThereAndBack(t, g))
	})
	if len(u.texts) != count || count < 5000 {
		t.Errorf("%d texts of %d small grammars", len(u.texts), count)
	}
}

// One field turned gives another text, if what comes of it is a grammar.
func TestOneFieldTurnedIsAnotherText(t *testing.T) {
	turned := 0
	for seed := range uint64(2000) {
		r := source(seed)
		g := somePlain(r)
		text, _ := show.Text(g)
		for range 20 {
			other := turn(r, gram.Copy(g))
			if !gram.Valid(other) {
				continue
			}
			turned++
			again, err := show.Text(other)
			if err != api.OK || (again == text) != (told(other) == told(g)) {
				t.Errorf("%v and %v have the texts\n%s and\n%s, %d", g, other, text, again, err)
			}
		}
	}
	if turned < 10000 {
		t.Errorf("only %d of what was turned were grammars", turned)
	}
}

// turn gives one field of a grammar another value, which may be the same.
func turn(r func(int) int, g api.Grammar) api.Grammar {
	p := &g.Prods[r(len(g.Prods))]
	term := &g.Terms[r(len(g.Terms))]
	switch r(9) {
	case 0:
		term.Level = r(len(g.Levels) + 1)
	case 1:
		term.Name = someTexts[r(len(someTexts))]
	case 2:
		g.Nons[r(len(g.Nons))] = someNames[r(len(someNames))]
	case 3:
		g.Start = len(g.Terms) + r(len(g.Nons))
	case 4:
		p.Level = r(len(g.Levels) + 1)
	case 5:
		p.Left = len(g.Terms) + r(len(g.Nons))
	case 6:
		p.Right = p.Right[:r(len(p.Right)+1)]
	case 7:
		if len(p.Right) > 0 {
			p.Right[r(len(p.Right))] = 1 + r(len(g.Terms)+len(g.Nons)-1)
		}
	case 8:
		if len(g.Levels) > 0 {
			g.Levels[r(len(g.Levels))] = 1 + r(3)
		}
	}
	return g
}

func TestLongTextsAreReadAgain(t *testing.T) {
	for _, length := range []int{8190, 8191, 8192} {
		if text := wantThereAndBack(t, longOf(t, length)); len(text) != length {
			t.Errorf("a text of %d bytes, want %d", len(text), length)
		}
	}
}

func TestTheDocumentsTextsAreReadAgain(t *testing.T) {
	for _, text := range []string{
		"%left '+'; %left '*'; e : e '+' e | e '*' e | n ;",
		"e : e '+' t | t ; t : n ;",
		"s : a 'x' | 'y' a 'z' | b 'z' | 'y' b 'x' ; a : 'w' ; b : 'w' ;",
		"s : a s b | 'x' ; a : ; b : ;",
		"%nonassoc '<'; e : e '<' e | n ;",
		"%left a; s : a b 'b' ; b : ;",
		"%token x y; %left y; s : y %none | x %prec y ;",
		"s : ;",
	} {
		wantThereAndBack(t, read(t, text))
	}
}

// P5.1

func TestSmallTextsOfManyGrammars(t *testing.T) {
	for seed := range uint64(500) {
		g := somePlain(source(seed))
		for _, g := range []api.Grammar{g, closedOf(g)} {
			wantSmallTexts(t, g)
		}
	}
}

// wantSmallTexts wants of a grammar what follows from the texts of its symbols.
func wantSmallTexts(t *testing.T, g api.Grammar) {
	t.Helper()
	texts := []string{"$end"}
	for _, term := range g.Terms[1:] {
		texts = append(texts, "'"+term.Name+"'")
	}
	for _, name := range g.Nons {
		if name == "" {
			name = "$start"
		}
		texts = append(texts, name)
	}
	for sym, want := range texts {
		text, err := show.Symbol(g, sym)
		wantText(t, "Symbol", want)(text, err)
	}
	for prod, p := range g.Prods {
		var right []string
		for _, sym := range p.Right {
			right = append(right, texts[sym])
		}
		text, err := show.Row(g, p.Right...)
		wantText(t, "Row", strings.Join(right, " "))(text, err)
		whole := append([]string{texts[p.Left], "->"}, right...)
		text, err = show.Prod(g, prod)
		wantText(t, "Prod", strings.Join(whole, " "))(text, err)
		for dot := range len(right) + 1 {
			text, err = show.Item(g, api.Item{Prod: prod, Dot: dot})
			wantText(t, "Item", strings.Join(slices.Insert(slices.Clone(whole), 2+dot, "."), " "))(text, err)
		}
	}
}
