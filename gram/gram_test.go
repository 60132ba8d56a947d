package gram_test

import (
	"math"
	"slices"
	"strconv"
	"strings"
	"testing"

	"presage/api"
	"presage/gram"
)

// wrongHandles are handles of nothing in any builder.
var wrongHandles = []int{math.MinInt, math.MinInt + 1, -api.MaxSyms - 1, 0, api.MaxSyms + 1, 1 << 32, math.MaxInt}

func wantAnswer(t *testing.T, what string) func(n int, err api.Errno) func(wantN int, wantErr api.Errno) {
	t.Helper()
	return func(n int, err api.Errno) func(int, api.Errno) {
		return func(wantN int, wantErr api.Errno) {
			t.Helper()
			if n != wantN || err != wantErr {
				t.Errorf("%s = %d, %d; want %d, %d", what, n, err, wantN, wantErr)
			}
		}
	}
}

func wantErr(t *testing.T, what string, err, want api.Errno) {
	t.Helper()
	if err != want {
		t.Errorf("%s = %d, want %d", what, err, want)
	}
}

func wantSizes(t *testing.T, b *gram.Builder, terms, nons, levels, prods int) {
	t.Helper()
	got := [4]int{}
	got[0], got[1], got[2], got[3] = b.Sizes()
	if want := [4]int{terms, nons, levels, prods}; got != want {
		t.Errorf("Sizes() = %v, want %v", got, want)
	}
}

func wantGrammar(t *testing.T, b *gram.Builder, want api.Grammar) {
	t.Helper()
	got, err := b.Grammar()
	if err != api.OK || !equal(got, want) {
		t.Errorf("Grammar() = %v, %d; want %v", got, err, want)
	}
}

// equal is Same told without it.
func equal(a, b api.Grammar) bool { return told(a) == told(b) }

func told(g api.Grammar) string {
	var s strings.Builder
	for _, term := range g.Terms {
		s.WriteString("t" + strconv.Quote(term.Name) + strconv.Itoa(term.Level))
	}
	for _, name := range g.Nons {
		s.WriteString("n" + strconv.Quote(name))
	}
	for _, side := range g.Levels {
		s.WriteString("l" + strconv.Itoa(side))
	}
	s.WriteString("s" + strconv.Itoa(g.Start))
	for _, p := range g.Prods {
		s.WriteString("p" + strconv.Itoa(p.Left) + ":")
		for _, sym := range p.Right {
			s.WriteString(strconv.Itoa(sym) + ",")
		}
		s.WriteString("g" + strconv.Itoa(p.Level))
	}
	return s.String()
}

// sums has the terminals + 1 (level 1) and n 2, the nonterminal e -1, the productions e : e + e and e : n.
func sums(t *testing.T) *gram.Builder {
	t.Helper()
	b := gram.New()
	wantAnswer(t, "Term(+)")(b.Term("+"))(1, api.OK)
	wantAnswer(t, "Term(n)")(b.Term("n"))(2, api.OK)
	wantAnswer(t, "Non(e)")(b.Non("e"))(-1, api.OK)
	wantAnswer(t, "Level(1, 1)")(b.Level(1, 1))(1, api.OK)
	wantAnswer(t, "Rule(e : e + e)")(b.Rule(-1, -1, 1, -1))(0, api.OK)
	wantAnswer(t, "Rule(e : n)")(b.Rule(-1, 2))(1, api.OK)
	return b
}

func sumsGrammar() api.Grammar {
	return api.Grammar{
		Terms:  []api.Term{{}, {Name: "+", Level: 1}, {Name: "n"}},
		Nons:   []string{"e"},
		Levels: []int{api.Left},
		Start:  3,
		Prods:  []api.Prod{{Left: 3, Right: []int{3, 1, 3}, Level: 1}, {Left: 3, Right: []int{2}}},
	}
}

// P2.1

func TestTermAndNonHandOutHandlesAsTheyCome(t *testing.T) {
	b := gram.New()
	for i, name := range []string{"x", "y", "_z9", "e"} {
		wantAnswer(t, "Term of a new text")(b.Term(name))(i+1, api.OK)
		wantAnswer(t, "Non of a new name")(b.Non(name))(-i-1, api.OK)
		wantAnswer(t, "Term of an old text")(b.Term("x"))(1, api.OK)
		wantAnswer(t, "Non of an old name")(b.Non("x"))(-1, api.OK)
		wantSizes(t, b, i+1, i+1, 0, 0)
	}
	wantAnswer(t, "Term(_z9)")(b.Term("_z9"))(3, api.OK)
	wantAnswer(t, "Non(e)")(b.Non("e"))(-4, api.OK)
}

func TestTermTakesTextsAlone(t *testing.T) {
	for c := range 256 {
		want := api.ErrArg
		if c >= 32 && c <= 126 && c != '\'' {
			want = api.OK
		}
		for _, text := range []string{string([]byte{byte(c)}), string([]byte{byte(c), 'a'}), string([]byte{'a', byte(c), 'a'}), strings.Repeat("a", 15) + string([]byte{byte(c)})} {
			n := 0
			if want == api.OK {
				n = 1
			}
			wantAnswer(t, "Term("+strconv.Quote(text)+")")(gram.New().Term(text))(n, want)
		}
	}
	for _, text := range []string{"", "it's", "é", "\x00", strings.Repeat("a", 17), strings.Repeat("a", 1<<20)} {
		b := gram.New()
		wantAnswer(t, "Term of no text")(b.Term(text))(0, api.ErrArg)
		wantSizes(t, b, 0, 0, 0, 0)
	}
	wantAnswer(t, "Term of 16 bytes")(gram.New().Term(strings.Repeat(" ", 16)))(1, api.OK)
}

func TestNonTakesNamesAlone(t *testing.T) {
	for c := range 256 {
		letter := c == '_' || c >= 'A' && c <= 'Z' || c >= 'a' && c <= 'z'
		for _, name := range []string{string([]byte{byte(c)}), string([]byte{byte(c), 'a'}), string([]byte{'a', byte(c)}), "_" + string([]byte{byte(c)}) + "Z", strings.Repeat("a", 15) + string([]byte{byte(c)})} {
			may := letter || name[0] != byte(c) && c >= '0' && c <= '9'
			n, err := 0, api.ErrArg
			if may {
				n, err = -1, api.OK
			}
			wantAnswer(t, "Non("+strconv.Quote(name)+")")(gram.New().Non(name))(n, err)
		}
	}
	for _, name := range []string{"", "+", "a b", "a-b", "aé", "'a'", strings.Repeat("a", 17), strings.Repeat("a", 1<<20)} {
		b := gram.New()
		wantAnswer(t, "Non of no name")(b.Non(name))(0, api.ErrArg)
		wantSizes(t, b, 0, 0, 0, 0)
	}
	wantAnswer(t, "Non of 16 bytes")(gram.New().Non(strings.Repeat("_", 16)))(-1, api.OK)
}

func TestTermsAndNonsTogetherAreAtMostMaxSyms(t *testing.T) {
	for _, terms := range []int{0, 1, 30, api.MaxSyms - 1, api.MaxSyms} {
		b := gram.New()
		for i := range terms {
			wantAnswer(t, "Term within the limit")(b.Term("t"+strconv.Itoa(i)))(i+1, api.OK)
		}
		for i := range api.MaxSyms - terms {
			wantAnswer(t, "Non within the limit")(b.Non("n"+strconv.Itoa(i)))(-i-1, api.OK)
		}
		wantAnswer(t, "Term beyond the limit")(b.Term("more"))(0, api.ErrTooBig)
		wantAnswer(t, "Non beyond the limit")(b.Non("more"))(0, api.ErrTooBig)
		wantAnswer(t, "no text beyond the limit")(b.Term(""))(0, api.ErrArg)
		wantAnswer(t, "no name beyond the limit")(b.Non("+"))(0, api.ErrArg)
		for i := range terms {
			wantAnswer(t, "an old text beyond the limit")(b.Term("t"+strconv.Itoa(i)))(i+1, api.OK)
		}
		for i := range api.MaxSyms - terms {
			wantAnswer(t, "an old name beyond the limit")(b.Non("n"+strconv.Itoa(i)))(-i-1, api.OK)
		}
		wantSizes(t, b, terms, api.MaxSyms-terms, 0, 0)
	}
}

// P2.2

func TestLevelGivesTerminalsALevelAboveAllOthers(t *testing.T) {
	b := gram.New()
	for _, text := range []string{"a", "b", "c", "d", "e"} {
		b.Term(text)
	}
	b.Non("s")
	wantAnswer(t, "Level(right, d, b)")(b.Level(api.Right, 4, 2))(1, api.OK)
	wantAnswer(t, "Level(neither, a)")(b.Level(api.Neither, 1))(2, api.OK)
	wantAnswer(t, "Level(left, c)")(b.Level(api.Left, 3))(3, api.OK)
	wantSizes(t, b, 5, 1, 3, 0)
	b.Rule(-1)
	wantGrammar(t, b, api.Grammar{
		Terms:  []api.Term{{}, {Name: "a", Level: 2}, {Name: "b", Level: 1}, {Name: "c", Level: 3}, {Name: "d", Level: 1}, {Name: "e"}},
		Nons:   []string{"s"},
		Levels: []int{api.Right, api.Neither, api.Left},
		Start:  6,
		Prods:  []api.Prod{{Left: 6}},
	})
}

func TestLevelRefusesAndChangesNothing(t *testing.T) {
	b := sums(t)
	b.Term("*")
	for _, side := range []int{math.MinInt, -1, 0, 4, 5, math.MaxInt} {
		wantAnswer(t, "Level of no side")(b.Level(side, 2))(0, api.ErrArg)
	}
	for side := api.Left; side <= api.Neither; side++ {
		wantAnswer(t, "Level without terminals")(b.Level(side))(0, api.ErrArg)
		wantAnswer(t, "Level of one that has a level")(b.Level(side, 1))(0, api.ErrArg)
		wantAnswer(t, "Level of one that has a level, behind another")(b.Level(side, 2, 1))(0, api.ErrArg)
		wantAnswer(t, "Level of one twice")(b.Level(side, 2, 2))(0, api.ErrArg)
		wantAnswer(t, "Level of one twice, apart")(b.Level(side, 2, 3, 2))(0, api.ErrArg)
		wantAnswer(t, "Level of a nonterminal")(b.Level(side, -1))(0, api.ErrArg)
		wantAnswer(t, "Level of the one behind the last")(b.Level(side, 2, 4))(0, api.ErrArg)
		for _, handle := range wrongHandles {
			wantAnswer(t, "Level of no handle")(b.Level(side, handle))(0, api.ErrArg)
			wantAnswer(t, "Level of no handle behind one")(b.Level(side, 2, 3, handle))(0, api.ErrArg)
		}
	}
	wantSizes(t, b, 3, 1, 1, 2)
	want := sumsGrammar()
	want.Terms = append(want.Terms, api.Term{Name: "*"})
	want.Start = 4
	want.Prods = []api.Prod{{Left: 4, Right: []int{4, 1, 4}, Level: 1}, {Left: 4, Right: []int{2}}}
	wantGrammar(t, b, want)
	wantAnswer(t, "Level of what was refused")(b.Level(api.Right, 2, 3))(2, api.OK)
}

func TestEveryTerminalMayHaveALevelOfItsOwn(t *testing.T) {
	b := gram.New()
	for i := range api.MaxSyms {
		b.Term("t" + strconv.Itoa(i))
	}
	for i := range api.MaxSyms {
		wantAnswer(t, "Level")(b.Level(1+i%3, api.MaxSyms-i))(i+1, api.OK)
	}
	wantSizes(t, b, api.MaxSyms, 0, api.MaxSyms, 0)
}

// P2.3

func TestRuleTakesTheLevelOfItsLastTerminalAtThatTime(t *testing.T) {
	b := gram.New()
	for _, text := range []string{"a", "b", "c"} {
		b.Term(text)
	}
	b.Non("s")
	b.Non("x")
	b.Rule(-1, 1)
	b.Level(api.Left, 1)
	b.Level(api.Right, 2)
	rules := []struct {
		left  int
		right []int
		level int
	}{
		{-1, []int{1}, 1},
		{-1, []int{2}, 2},
		{-1, []int{1, 2}, 2},
		{-2, []int{2, 1}, 1},
		{-1, []int{2, -1, 1, -2}, 1},
		{-1, []int{1, 3}, 0},
		{-1, []int{3, 1}, 1},
		{-1, []int{-1, -2}, 0},
		{-1, nil, 0},
	}
	want := []int{0}
	for i, r := range rules {
		wantAnswer(t, "Rule")(b.Rule(r.left, r.right...))(i+1, api.OK)
		want = append(want, r.level)
	}
	b.Level(api.Neither, 3)
	g, err := b.Grammar()
	wantErr(t, "Grammar", err, api.OK)
	for i, level := range want {
		if g.Prods[i].Level != level {
			t.Errorf("production %d has level %d, want %d", i, g.Prods[i].Level, level)
		}
	}
}

func TestRuleRefusesAndChangesNothing(t *testing.T) {
	b := sums(t)
	for _, left := range append([]int{1, 2, 3, -2}, wrongHandles...) {
		wantAnswer(t, "Rule of no nonterminal")(b.Rule(left))(0, api.ErrArg)
		wantAnswer(t, "Rule of no nonterminal")(b.Rule(left, 1, -1))(0, api.ErrArg)
	}
	for _, handle := range append([]int{3, -2}, wrongHandles...) {
		wantAnswer(t, "Rule with no handle")(b.Rule(-1, handle))(0, api.ErrArg)
		wantAnswer(t, "Rule with no handle, first")(b.Rule(-1, handle, 1))(0, api.ErrArg)
		wantAnswer(t, "Rule with no handle, last")(b.Rule(-1, -1, 1, handle))(0, api.ErrArg)
	}
	wantSizes(t, b, 2, 1, 1, 2)
	wantGrammar(t, b, sumsGrammar())
}

func TestRulesAreAtMostMaxProds(t *testing.T) {
	b := gram.New()
	b.Term("x")
	b.Non("s")
	for i := range api.MaxProds {
		wantAnswer(t, "Rule within the limit")(b.Rule(-1, 1, -1))(i, api.OK)
	}
	wantAnswer(t, "Rule beyond the limit")(b.Rule(-1, 1))(0, api.ErrTooBig)
	wantAnswer(t, "a wrong left beyond the limit")(b.Rule(1, 1))(0, api.ErrArg)
	wantAnswer(t, "a wrong right beyond the limit")(b.Rule(-1, 2))(0, api.ErrArg)
	wantSizes(t, b, 1, 1, 0, api.MaxProds)
	wantErr(t, "Grade of the last one", b.Grade(0, api.MaxProds-1), api.OK)
	wantErr(t, "Grade of one more", b.Grade(0, api.MaxProds), api.ErrArg)
	g, err := b.Grammar()
	wantErr(t, "Grammar", err, api.OK)
	if !gram.Valid(g) || len(g.Prods) != api.MaxProds {
		t.Errorf("a grammar of %d productions is Valid: %v", len(g.Prods), gram.Valid(g))
	}
}

func TestALongRightIsTaken(t *testing.T) {
	b := gram.New()
	b.Term("x")
	b.Non("s")
	right := make([]int, 5000)
	for i := range right {
		right[i] = 1 - 2*(i%2)
	}
	wantAnswer(t, "Rule")(b.Rule(-1, right...))(0, api.OK)
	g, _ := b.Grammar()
	if !gram.Valid(g) || len(g.Prods[0].Right) != len(right) {
		t.Errorf("the Right has %d symbols; Valid: %v", len(g.Prods[0].Right), gram.Valid(g))
	}
}

func TestGradeGivesAnotherLevel(t *testing.T) {
	b := sums(t)
	b.Level(api.Neither, 2)
	wantErr(t, "Grade of none", b.Grade(2), api.OK)
	wantErr(t, "Grade of one twice", b.Grade(2, 1, 1), api.OK)
	want := sumsGrammar()
	want.Terms[2].Level = 2
	want.Levels = []int{api.Left, api.Neither}
	want.Prods[1].Level = 2
	wantGrammar(t, b, want)
	wantErr(t, "Grade of all", b.Grade(0, 1, 0), api.OK)
	want.Prods[0].Level, want.Prods[1].Level = 0, 0
	wantGrammar(t, b, want)
	wantErr(t, "Grade to the lowest", b.Grade(1, 0), api.OK)
	want.Prods[0].Level = 1
	wantGrammar(t, b, want)
}

func TestGradeRefusesAndChangesNothing(t *testing.T) {
	b := sums(t)
	for _, level := range []int{math.MinInt, -1, 2, math.MaxInt} {
		wantErr(t, "Grade to no level", b.Grade(level, 1), api.ErrArg)
		wantErr(t, "Grade of none to no level", b.Grade(level), api.ErrArg)
	}
	for _, prod := range []int{math.MinInt, -1, 2, 96, math.MaxInt} {
		wantErr(t, "Grade of no production", b.Grade(1, prod), api.ErrArg)
		wantErr(t, "Grade of no production behind one", b.Grade(1, 1, prod), api.ErrArg)
	}
	wantGrammar(t, b, sumsGrammar())
	wantErr(t, "Grade without levels", gram.New().Grade(1), api.ErrArg)
	wantErr(t, "Grade to none without levels", gram.New().Grade(0), api.OK)
	wantErr(t, "Grade without productions", gram.New().Grade(0, 0), api.ErrArg)
}

// P2.4

func TestStartIsTheLastOneNamedOrTheFirstLeft(t *testing.T) {
	b := gram.New()
	b.Non("a")
	b.Non("b")
	b.Rule(-2, -1)
	b.Rule(-1)
	g, _ := b.Grammar()
	if g.Start != 1 || g.Nons[0] != "b" {
		t.Errorf("without a call Start is %d of %v, want b's", g.Start, g.Nons)
	}
	wantErr(t, "Start(a)", b.Start(-1), api.OK)
	if g, _ = b.Grammar(); g.Start != 2 {
		t.Errorf("Start is %d of %v, want a's", g.Start, g.Nons)
	}
	for _, non := range append([]int{1, -3}, wrongHandles...) {
		wantErr(t, "Start of no nonterminal", b.Start(non), api.ErrArg)
	}
	if g, _ = b.Grammar(); g.Start != 2 {
		t.Errorf("a refused Start is %d of %v, want a's", g.Start, g.Nons)
	}
	wantErr(t, "Start(b)", b.Start(-2), api.OK)
	if g, _ = b.Grammar(); g.Start != 1 {
		t.Errorf("Start is %d of %v, want b's", g.Start, g.Nons)
	}
}

func TestStartOfATerminalIsRefused(t *testing.T) {
	b := sums(t)
	wantErr(t, "Start of a terminal", b.Start(1), api.ErrArg)
	wantGrammar(t, b, sumsGrammar())
}

func TestStartMayBeNamedAheadOfItsProductions(t *testing.T) {
	b := gram.New()
	b.Non("a")
	b.Non("b")
	wantErr(t, "Start(b)", b.Start(-2), api.OK)
	b.Rule(-1)
	_, err := b.Grammar()
	wantErr(t, "Grammar whose start symbol has no production", err, api.ErrArg)
	b.Rule(-2, -1)
	wantGrammar(t, b, api.Grammar{Terms: []api.Term{{}}, Nons: []string{"a", "b"}, Start: 2, Prods: []api.Prod{{Left: 1}, {Left: 2, Right: []int{1}}}})
}

// P2.5

func TestGrammarIsToldOfTheBuilder(t *testing.T) {
	b := sums(t)
	wantSizes(t, b, 2, 1, 1, 2)
	wantGrammar(t, b, sumsGrammar())
	b.Non("x")
	wantSizes(t, b, 2, 2, 1, 2)
	g, err := b.Grammar()
	wantErr(t, "Grammar with a nonterminal without a production", err, api.ErrArg)
	if !equal(g, api.Grammar{}) {
		t.Errorf("beside an error the grammar is %v", g)
	}
	b.Rule(-2)
	want := sumsGrammar()
	want.Nons = []string{"e", "x"}
	want.Prods = append(want.Prods, api.Prod{Left: 4})
	wantGrammar(t, b, want)
}

func TestGrammarWithoutProductionsIsRefused(t *testing.T) {
	b := gram.New()
	_, err := b.Grammar()
	wantErr(t, "Grammar of nothing", err, api.ErrArg)
	b.Term("x")
	_, err = b.Grammar()
	wantErr(t, "Grammar of a terminal", err, api.ErrArg)
	b.Non("s")
	b.Start(-1)
	g, err := b.Grammar()
	wantErr(t, "Grammar of symbols", err, api.ErrArg)
	if !equal(g, api.Grammar{}) {
		t.Errorf("beside an error the grammar is %v", g)
	}
	wantSizes(t, b, 1, 1, 0, 0)
}

func TestNonterminalsAreOrderedByTheirFirstProductions(t *testing.T) {
	b := gram.New()
	for _, name := range []string{"a", "b", "c", "d"} {
		b.Non(name)
	}
	b.Term("x")
	b.Rule(-3, -1, -2, 1)
	b.Term("y")
	b.Rule(-1, 2, -4)
	b.Rule(-3)
	b.Rule(-4, 1)
	b.Rule(-2, -2)
	b.Start(-2)
	wantGrammar(t, b, api.Grammar{
		Terms: []api.Term{{}, {Name: "x"}, {Name: "y"}},
		Nons:  []string{"c", "a", "d", "b"},
		Start: 6,
		Prods: []api.Prod{
			{Left: 3, Right: []int{4, 6, 1}},
			{Left: 4, Right: []int{2, 5}},
			{Left: 3},
			{Left: 5, Right: []int{1}},
			{Left: 6, Right: []int{6}},
		},
	})
}

// R1

func TestANilBuilderIsRefused(t *testing.T) {
	var b *gram.Builder
	wantAnswer(t, "Term")(b.Term("x"))(0, api.ErrArg)
	wantAnswer(t, "Non")(b.Non("x"))(0, api.ErrArg)
	wantAnswer(t, "Level")(b.Level(1, 1))(0, api.ErrArg)
	wantAnswer(t, "Rule")(b.Rule(-1))(0, api.ErrArg)
	wantErr(t, "Grade", b.Grade(0), api.ErrArg)
	wantErr(t, "Start", b.Start(-1), api.ErrArg)
	wantSizes(t, b, 0, 0, 0, 0)
	g, err := b.Grammar()
	wantErr(t, "Grammar", err, api.ErrArg)
	if !equal(g, api.Grammar{}) {
		t.Errorf("of a nil builder the grammar is %v", g)
	}
}

func TestAZeroBuilderIsAnEmptyOne(t *testing.T) {
	var b gram.Builder
	wantSizes(t, &b, 0, 0, 0, 0)
	wantAnswer(t, "Level")(b.Level(1, 1))(0, api.ErrArg)
	wantAnswer(t, "Rule")(b.Rule(-1))(0, api.ErrArg)
	wantErr(t, "Grade", b.Grade(0), api.OK)
	wantErr(t, "Grade of a production", b.Grade(0, 0), api.ErrArg)
	wantErr(t, "Start", b.Start(-1), api.ErrArg)
	_, err := b.Grammar()
	wantErr(t, "Grammar", err, api.ErrArg)
	wantAnswer(t, "Term")(b.Term("x"))(1, api.OK)
	wantAnswer(t, "Non")(b.Non("s"))(-1, api.OK)
	wantAnswer(t, "Level")(b.Level(2, 1))(1, api.OK)
	wantAnswer(t, "Rule")(b.Rule(-1, 1))(0, api.OK)
	wantGrammar(t, &b, api.Grammar{Terms: []api.Term{{}, {Name: "x", Level: 1}}, Nons: []string{"s"}, Levels: []int{2}, Start: 2, Prods: []api.Prod{{Left: 2, Right: []int{1}, Level: 1}}})
}

func TestACopiedBuilderGoesItsOwnWay(t *testing.T) {
	b := sums(t)
	b.Rule(-1, 1)
	b.Term("x")
	c := *b
	b.Non("only_b")
	b.Rule(-2, 3, 3)
	b.Level(api.Right, 3)
	b.Grade(2, 0)
	wantSizes(t, &c, 3, 1, 1, 3)
	wantAnswer(t, "Non of the copy")(c.Non("only_c"))(-2, api.OK)
	c.Rule(-2, 3)
	c.Level(api.Neither, 2)
	common := []api.Prod{{Left: 4, Right: []int{4, 1, 4}, Level: 1}, {Left: 4, Right: []int{2}}, {Left: 4, Right: []int{1}, Level: 1}}
	wantGrammar(t, &c, api.Grammar{
		Terms:  []api.Term{{}, {Name: "+", Level: 1}, {Name: "n", Level: 2}, {Name: "x"}},
		Nons:   []string{"e", "only_c"},
		Levels: []int{api.Left, api.Neither},
		Start:  4,
		Prods:  append(slices.Clone(common), api.Prod{Left: 5, Right: []int{3}}),
	})
	common[0].Level = 2
	wantGrammar(t, b, api.Grammar{
		Terms:  []api.Term{{}, {Name: "+", Level: 1}, {Name: "n"}, {Name: "x", Level: 2}},
		Nons:   []string{"e", "only_b"},
		Levels: []int{api.Left, api.Right},
		Start:  4,
		Prods:  append(common, api.Prod{Left: 5, Right: []int{3, 3}}),
	})
}

// However long the lists are when a builder is copied, the two never write into the same one.
func TestACopiedBuilderSharesNoSpareRoom(t *testing.T) {
	for n := 1; n <= 12; n++ {
		b := gram.New()
		for i := range n + 1 {
			b.Term("t" + strconv.Itoa(i))
			b.Non("n" + strconv.Itoa(i))
			b.Rule(-i - 1)
		}
		for i := range n {
			b.Level(api.Left, i+1)
		}
		c := *b
		b.Level(api.Right, n+1)
		c.Level(api.Neither, n+1)
		b.Term("of_b")
		c.Term("of_c")
		b.Non("of_b")
		c.Non("of_c")
		b.Rule(-n-2, n+2)
		c.Rule(-n-2, n+1)
		for _, one := range []struct {
			b     *gram.Builder
			name  string
			side  int
			right int
		}{{b, "of_b", api.Right, n + 2}, {&c, "of_c", api.Neither, n + 1}} {
			g, err := one.b.Grammar()
			if err != api.OK || !gram.Valid(g) || g.Terms[n+2].Name != one.name || g.Nons[n+1] != one.name || g.Levels[n] != one.side || g.Prods[n+1].Right[0] != one.right {
				t.Errorf("copied at %d, %s is told %v, %d", n, one.name, g, err)
			}
			wantAnswer(t, "Term of its own")(one.b.Term(one.name))(n+2, api.OK)
			wantAnswer(t, "Non of its own")(one.b.Non(one.name))(-n-2, api.OK)
		}
	}
}

// R3

func TestWhatIsHandedInIsNeitherChangedNorKept(t *testing.T) {
	b := gram.New()
	b.Term("x")
	b.Term("y")
	b.Non("s")
	all := []int{1, -1, 2, 77}
	b.Level(api.Left, all[:1]...)
	b.Rule(-1, all[:3]...)
	prods := []int{0, 77}
	b.Grade(1, prods[:1]...)
	if !slices.Equal(all, []int{1, -1, 2, 77}) || !slices.Equal(prods, []int{0, 77}) {
		t.Errorf("what was handed in is now %v and %v", all, prods)
	}
	all[0], all[1], all[2] = 9, 9, 9
	wantGrammar(t, b, api.Grammar{Terms: []api.Term{{}, {Name: "x", Level: 1}, {Name: "y"}}, Nons: []string{"s"}, Levels: []int{1}, Start: 3, Prods: []api.Prod{{Left: 3, Right: []int{1, 3, 2}, Level: 1}}})
}

// scribble writes over all that a grammar's lists hold, their spare room too.
func scribble(g api.Grammar) {
	for _, p := range g.Prods {
		fill(p.Right, 99)
	}
	fill(g.Terms, api.Term{Name: "scribbled", Level: 99})
	fill(g.Nons, "scribbled")
	fill(g.Levels, 99)
	fill(g.Prods, api.Prod{Left: 99})
}

func fill[T any](list []T, value T) {
	list = list[:cap(list)]
	for i := range list {
		list[i] = value
	}
}

func TestAGrammarToldIsACopy(t *testing.T) {
	b := sums(t)
	g, _ := b.Grammar()
	h, _ := b.Grammar()
	scribble(g)
	if !equal(h, sumsGrammar()) {
		t.Errorf("an answer shares memory with another one: %v", h)
	}
	wantGrammar(t, b, sumsGrammar())
	b.Term("x")
	b.Level(api.Right, 2)
	b.Rule(-1, 3)
	b.Grade(0, 0)
	if !equal(h, sumsGrammar()) {
		t.Errorf("the builder went on in its answer: %v", h)
	}
}

// P2.7

func TestAValidGrammarMadeAnewIsToldAsItWas(t *testing.T) {
	for seed := range uint64(300) {
		g := somePlain(source(seed))
		if !gram.Valid(g) {
			t.Fatalf("not Valid: %v", g)
		}
		b := gram.New()
		rebuild(t, b, g)
		wantGrammar(t, b, g)
		if told, _ := b.Grammar(); !gram.Same(told, g) || !gram.Valid(told) || gram.Closed(told) {
			t.Errorf("Same %v, Valid %v, Closed %v of %v", gram.Same(told, g), gram.Valid(told), gram.Closed(told), told)
		}
	}
}

func rebuild(t *testing.T, b *gram.Builder, g api.Grammar) {
	t.Helper()
	for i, term := range g.Terms[1:] {
		wantAnswer(t, "Term")(b.Term(term.Name))(i+1, api.OK)
	}
	for i, name := range g.Nons {
		wantAnswer(t, "Non")(b.Non(name))(-i-1, api.OK)
	}
	for i, side := range g.Levels {
		var terms []int
		for n, term := range g.Terms {
			if term.Level == i+1 {
				terms = append(terms, n)
			}
		}
		wantAnswer(t, "Level")(b.Level(side, terms...))(i+1, api.OK)
	}
	handle := func(sym int) int {
		if sym < len(g.Terms) {
			return sym
		}
		return len(g.Terms) - 1 - sym
	}
	for i, p := range g.Prods {
		var right []int
		for _, sym := range p.Right {
			right = append(right, handle(sym))
		}
		wantAnswer(t, "Rule")(b.Rule(handle(p.Left), right...))(i, api.OK)
		wantErr(t, "Grade", b.Grade(p.Level, i), api.OK)
	}
	wantErr(t, "Start", b.Start(handle(g.Start)), api.OK)
}

// What a builder tells after any calls, refused ones too, is Valid and never Closed.
func TestWhatGrammarTellsIsValid(t *testing.T) {
	toldOnes := 0
	for seed := range uint64(400) {
		r := source(seed)
		b := gram.New()
		for range 80 {
			anyCall(b, r)
			g, err := b.Grammar()
			if err == api.OK {
				toldOnes++
				if !gram.Valid(g) || gram.Closed(g) || !isPlain(g) {
					t.Fatalf("Valid %v, Closed %v of %v", gram.Valid(g), gram.Closed(g), g)
				}
			}
		}
	}
	if toldOnes < 1000 {
		t.Errorf("only %d grammars were told", toldOnes)
	}
}

func anyCall(b *gram.Builder, r func(int) int) {
	handle := func() int { return r(9) - 4 }
	switch r(8) {
	case 0:
		b.Term([]string{"a", "b", "c", "d", "it's", ""}[r(6)])
	case 1:
		b.Non([]string{"a", "b", "1", ""}[r(4)])
	case 2:
		b.Level(r(5), handle(), handle())
	case 3:
		b.Level(1+r(3), handle())
	case 4:
		b.Grade(r(4)-1, r(4), r(8))
	case 5:
		b.Start(handle())
	default:
		b.Rule(-1-r(3), []int{handle(), handle()}[:r(3)]...)
	}
}
