package spec_test

import (
	"regexp"
	"slices"
	"strings"
	"testing"

	"presage/api"
	"presage/gram"
	"presage/scan"
	"presage/spec"
)

// Here the document's words are said a second time: the grammar of texts as a pattern over a letter for each word, what could go on by trying, and what a text means by cutting it at its signs.

// whole is the grammar above the promises: k is %token, l a level's order, s %start, p %prec, o %none, n a Name, q a Quoted.
var whole = regexp.MustCompile(`^([kl][nq]+;|sn;)*(n:[nq]*(p[nq]|o)?(\|[nq]*(p[nq]|o)?)*;)+$`)

func lettersOf(words []scan.Word) string {
	orders := map[string]string{"%token": "k", "%left": "l", "%right": "l", "%nonassoc": "l", "%start": "s", "%prec": "p", "%none": "o"}
	text := ""
	for _, w := range words {
		switch w.Kind {
		case scan.Name:
			text += "n"
		case scan.Quoted:
			text += "q"
		case scan.Order:
			text += orders[w.Text]
		case scan.Sign:
			text += w.Text
		}
	}
	return text
}

// goesOn tells whether some text begins with these words: from each place of the grammar one of these ends leads to a whole text.
func goesOn(words []scan.Word) bool {
	letters := lettersOf(words)
	for _, end := range []string{"", ";", ":;", "n;", "n:;", ";n:;", "n;n:;"} {
		if whole.MatchString(letters + end) {
			return true
		}
	}
	return false
}

// cut are the pieces of a list of words between signs of this text.
func cut(words []scan.Word, sign string) [][]scan.Word {
	pieces := [][]scan.Word{nil}
	for _, w := range words {
		if w.Kind == scan.Sign && w.Text == sign {
			pieces = append(pieces, nil)
		} else {
			pieces[len(pieces)-1] = append(pieces[len(pieces)-1], w)
		}
	}
	return pieces
}

// cameIn are the texts of the words behind these orders, each up to the next `;`.
func cameIn(words []scan.Word, orders ...string) []string {
	var texts []string
	for _, piece := range cut(words, ";") {
		if len(piece) > 0 && piece[0].Kind == scan.Order && slices.Contains(orders, piece[0].Text) {
			for _, w := range piece[1:] {
				texts = append(texts, w.Text)
			}
		}
	}
	return texts
}

// canStand tells whether the last of these words can stand behind the others, which can.
func canStand(words []scan.Word) bool {
	if !goesOn(words) {
		return false
	}
	ahead, last := words[:len(words)-1], words[len(words)-1]
	pieces := cut(words, ";")
	piece := pieces[len(pieces)-1]
	switch {
	case len(piece) == 0 || piece[0].Kind != scan.Order:
		return true
	case len(piece) == 1 && last.Text == "%start":
		isStart := func(w scan.Word) bool { return w.Kind == scan.Order && w.Text == "%start" }
		return !slices.ContainsFunc(ahead, isStart)
	case len(piece) > 1 && piece[0].Text == "%token":
		return !slices.Contains(cameIn(ahead, "%token", "%left", "%right", "%nonassoc"), last.Text)
	case len(piece) > 1 && piece[0].Text != "%start":
		return !slices.Contains(cameIn(ahead, "%left", "%right", "%nonassoc"), last.Text)
	}
	return true
}

// badSaid is what P4.1 says.
func badSaid(text string) int {
	if len(text) > 8192 {
		return 8192
	}
	words := slices.Collect(scan.Each(text))
	for i, w := range words {
		if !canStand(words[:i+1]) {
			return w.At
		}
	}
	if _, mishap := scan.Words(text); mishap.Code != api.OK {
		return mishap.At
	}
	starts := cameIn(words, "%start")
	if !whole.MatchString(lettersOf(words)) || len(starts) > 0 && !slices.Contains(leftsOf(words), starts[0]) {
		return len(text)
	}
	return -1
}

// leftsOf are the Names ahead of a `:`, each once.
func leftsOf(words []scan.Word) []string {
	var lefts []string
	for i, w := range words {
		if w.Kind == scan.Sign && w.Text == ":" && !slices.Contains(lefts, words[i-1].Text) {
			lefts = append(lefts, words[i-1].Text)
		}
	}
	return lefts
}

// said is what the second part of the chapter makes of the words of a text that is a grammar's.
type said struct {
	terms, nons []string
	levels      []int // by terminal
	sides       []int
	start       string
}

// number is that of a symbol; a terminal that is new has the next one.
func (s *said) number(w scan.Word, isTerm bool) int {
	if !isTerm && w.Kind == scan.Name && slices.Contains(s.nons, w.Text) {
		return -1 - slices.Index(s.nons, w.Text)
	}
	if !slices.Contains(s.terms, w.Text) {
		s.terms, s.levels = append(s.terms, w.Text), append(s.levels, 0)
	}
	return slices.Index(s.terms, w.Text)
}

func (s *said) header(words []scan.Word) {
	if words[0].Text == "%start" {
		s.start = words[1].Text
		return
	}
	side := slices.Index([]string{"%token", "%left", "%right", "%nonassoc"}, words[0].Text)
	if side > 0 {
		s.sides = append(s.sides, side)
	}
	for _, w := range words[1:] {
		if n := s.number(w, true); side > 0 {
			s.levels[n] = len(s.sides)
		}
	}
}

func (s *said) prod(left string, words []scan.Word) api.Prod {
	p := api.Prod{Left: -1 - slices.Index(s.nons, left)}
	for i, w := range words {
		switch {
		case w.Kind == scan.Order && w.Text == "%none":
			p.Level = 0
		case w.Kind == scan.Order:
			p.Level = s.levels[s.number(words[i+1], true)]
			return p
		default:
			n := s.number(w, false)
			p.Right = append(p.Right, n)
			if n > 0 {
				p.Level = s.levels[n]
			}
		}
	}
	return p
}

// grammarSaid is the grammar of these words, false, if it is too big.
func grammarSaid(words []scan.Word) (api.Grammar, bool) {
	s := said{terms: []string{""}, levels: []int{0}, nons: leftsOf(words)}
	s.start = s.nons[0]
	g := api.Grammar{}
	for _, piece := range cut(words, ";") {
		if len(piece) > 0 && piece[0].Kind == scan.Order {
			s.header(piece)
		} else if len(piece) > 0 {
			for _, row := range cut(piece[2:], "|") {
				g.Prods = append(g.Prods, s.prod(piece[0].Text, row))
			}
		}
	}
	symbol := func(n int) int {
		if n < 0 {
			return len(s.terms) - 1 - n
		}
		return n
	}
	for i := range g.Prods {
		g.Prods[i].Left = symbol(g.Prods[i].Left)
		for j, n := range g.Prods[i].Right {
			g.Prods[i].Right[j] = symbol(n)
		}
	}
	for i, text := range s.terms {
		g.Terms = append(g.Terms, api.Term{Name: text, Level: s.levels[i]})
	}
	g.Nons, g.Levels, g.Start = s.nons, s.sides, len(s.terms)+slices.Index(s.nons, s.start)
	return g, len(s.terms)-1+len(s.nons) <= 64 && len(g.Prods) <= 96
}

// wantAsSaid holds both calls against that, and tells which of the three answers there was: OK, ErrSyntax, ErrTooBig.
func wantAsSaid(t *testing.T, text string) api.Errno {
	t.Helper()
	if bad := badSaid(text); bad >= 0 {
		wantBad(t, text, bad)
		return api.ErrSyntax
	}
	words, _ := scan.Words(text)
	g, fits := grammarSaid(words)
	if !fits {
		wantTooBig(t, text)
		return api.ErrTooBig
	}
	wantRead(t, text, told(g))
	return api.OK
}

// source gives numbers below n that hang on the seed alone.
func source(seed uint64) func(n int) int {
	state := seed*2 + 1
	return func(n int) int {
		state = state*6364136223846793005 + 1442695040888963407
		return int(state>>33) % n
	}
}

func oneOf(r func(int) int, texts ...string) string { return texts[r(len(texts))] }

func someTerm(r func(int) int) string {
	return oneOf(r, "a", "b", "c", "s", "r", "'a'", "'b'", "'s'", "'+'", "';'", "'%left'", "d", "e")
}

func someTerms(r func(int) int, n int) []string {
	var words []string
	for range n {
		words = append(words, someTerm(r))
	}
	return words
}

// someWords are the words of a text that most often is a grammar's; widen makes it a greater one.
func someWords(r func(int) int, widen int) []string {
	var words []string
	for range r(4) {
		if r(4) == 0 {
			words = append(words, "%start", oneOf(r, "s", "r", "s", "q"), ";")
		} else {
			words = append(words, oneOf(r, "%token", "%left", "%right", "%nonassoc"))
			words = append(append(words, someTerms(r, 1+r(2))...), ";")
		}
	}
	for range 1 + r(3)*widen {
		words = append(words, oneOf(r, "s", "r", "s", "q"), ":")
		for i := range 1 + r(3)*widen {
			if i > 0 {
				words = append(words, "|")
			}
			words = append(words, someTerms(r, r(4))...)
			switch r(5) {
			case 0:
				words = append(words, "%none")
			case 1:
				words = append(words, "%prec", someTerm(r))
			}
		}
		words = append(words, ";")
	}
	return words
}

// turned is the list with one word put in, taken out, replaced or brought elsewhere.
func turned(r func(int) int, words []string) []string {
	words = slices.Clone(words)
	at := r(len(words))
	other := oneOf(r, ";", ":", "|", "%prec", "%none", "%left", "%token", "%start", "a", "s", "'a'", "r", words[r(len(words))])
	switch r(3) {
	case 0:
		return slices.Insert(words, at, other)
	case 1:
		return slices.Delete(words, at, at+1)
	}
	words[at] = other
	return words
}

func someBlanks(r func(int) int) string {
	text := " "
	for range r(3) {
		text += oneOf(r, " ", "\t", "\n", "\r", "#\n", "# s : $ '\n", "# ; %left x;\r\n")
	}
	return text
}

// laid are words with blanks ahead of each and at the end; the places of all, and of the end.
func laid(r func(int) int, words []string) (text string, places []int) {
	for _, w := range words {
		text += someBlanks(r)
		places = append(places, len(text))
		text += w
	}
	text += someBlanks(r)
	return text, append(places, len(text))
}

// P4.1, P4.2

func TestShortTextsAreReadAsTheDocumentSays(t *testing.T) {
	vocabulary := []string{"%token", "%left", "%right", "%start", "%prec", "%none", "a", "b", "'a'", ":", "|", ";"}
	lists := [][]string{nil}
	for len(lists) > 0 {
		list := lists[0]
		lists = lists[1:]
		text := strings.Join(list, " ")
		wantAsSaid(t, text)
		// What is bad ahead of its end stays so: see P4.3.
		if len(list) < 8 && (badSaid(text) < 0 || badSaid(text) == len(text)) {
			for _, w := range vocabulary {
				lists = append(lists, append(slices.Clip(list), w))
			}
		}
	}
}

func TestManyTextsAreReadAsTheDocumentSays(t *testing.T) {
	r := source(4)
	answers := map[api.Errno]int{}
	for i := range 6000 {
		words := someWords(r, 1)
		for range i % 3 {
			words = turned(r, words)
		}
		if i%8 == 0 {
			words = turned(r, append(words, oneOf(r, "$", "'", "''", "%lef", "%leftt", "1", "'a\n'")))
		}
		text, _ := laid(r, words)
		answers[wantAsSaid(t, text)]++
	}
	if answers[api.OK] < 1000 || answers[api.ErrSyntax] < 1000 {
		t.Errorf("the answers are %v: the test looks at one kind too seldom", answers)
	}
}

func TestTextsOfAnyBytesAreReadAsTheDocumentSays(t *testing.T) {
	r := source(8)
	for range 3000 {
		text := oneOf(r, "", "s : ", "s : ; ", "%left ", "%token x; ")
		for range r(12) {
			text += oneOf(r, string([]byte{byte(r(256))}), "s", ":", ";", "|", "'", "%", " ", "%none", "%prec", "%left", "\n", "#")
		}
		wantAsSaid(t, text)
	}
}

// wideRow is a rule whose row has so many words, most of them unlike.
func wideRow(r func(int) int, n int) []string {
	words := []string{"w", ":"}
	for range n {
		name := oneOf(r, "x", "y", "z") + string(rune('a'+r(26)))
		words = append(words, oneOf(r, name, "'"+name+"'"))
	}
	return append(words, ";", "xa", ":", ";")
}

func TestGreatTextsAreReadAsTheDocumentSays(t *testing.T) {
	r := source(5)
	answers := map[api.Errno]int{}
	for range 100 {
		text, _ := laid(r, someWords(r, 7))
		answers[wantAsSaid(t, text)]++
		text, _ = laid(r, append(someWords(r, 1), wideRow(r, 50+r(80))...))
		answers[wantAsSaid(t, text)]++
	}
	if answers[api.OK] < 20 || answers[api.ErrTooBig] < 20 {
		t.Errorf("the answers are %v: the test looks at one kind too seldom", answers)
	}
}

// P4.3

func TestBlanksAndRemarksChangePlacesAlone(t *testing.T) {
	r := source(6)
	good := 0
	for i := range 3000 {
		words := someWords(r, 1)
		if i%2 == 0 {
			words = turned(r, words)
		}
		one, onePlaces := laid(r, words)
		other, otherPlaces := laid(r, words)
		oneBad, otherBad := spec.Bad(one), spec.Bad(other)
		if slices.Index(onePlaces, oneBad) != slices.Index(otherPlaces, otherBad) || (oneBad < 0) != (otherBad < 0) {
			t.Errorf("the bad place of %q is %d, that of %q %d", one, oneBad, other, otherBad)
		}
		g, oneMishap := spec.Read(one)
		h, otherMishap := spec.Read(other)
		if !gram.Same(g, h) || oneMishap.Code != otherMishap.Code {
			t.Errorf("%q is read as %v, %v, but %q as %v, %v", one, g, oneMishap, other, h, otherMishap)
		}
		if oneBad < 0 {
			good++
		}
	}
	if good < 500 || good > 2500 {
		t.Errorf("%d of 3000 texts are grammars': the test looks at one kind too seldom", good)
	}
}

func TestWordsNeedNoBlanksWhereTheyEndByThemselves(t *testing.T) {
	const want = "+/1 n/0 | e f | 1 | 3 | 3: 3 1 3/1, 3: 2/0, 4: 3/1"
	wantRead(t, "%left'+';%start e;e:e'+'e|n%none;f:e%prec'+';", want)
	wantRead(t, "#a\n\t%left#'\n'+'#\n;%start\re#\n\n;e:\ne'+'e\n|n%none#;\n;f:e%prec#\n'+'\r\n;#", want)
}

func TestWhatFollowsABadWordDoesNotMatter(t *testing.T) {
	r := source(7)
	tried := 0
	for range 3000 {
		words := turned(r, someWords(r, 1))
		text, places := laid(r, words)
		bad := spec.Bad(text)
		i := slices.Index(places, bad)
		if i < 0 || i == len(words) {
			continue
		}
		tried++
		behind, _ := laid(r, someWords(r, 1))
		for _, end := range []string{"", " ", behind, " $", " '", " %lef", " \x00\xff", " " + strings.Repeat("s : ; ", 200)} {
			wantBad(t, text[:bad]+words[i]+end, bad)
		}
	}
	if tried < 500 {
		t.Errorf("%d of 3000 texts were bad at a word: the test looks at them too seldom", tried)
	}
}
