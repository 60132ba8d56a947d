package spec_test

import (
	"slices"
	"strconv"
	"strings"
	"testing"
	"unsafe"

	"presage/api"
	"presage/gram"
	"presage/spec"
)

// short is a text as a test's message tells it.
func short(text string) string {
	if len(text) > 200 {
		return strconv.Quote(text[:200]) + ".. of " + strconv.Itoa(len(text)) + " bytes"
	}
	return strconv.Quote(text)
}

// told is a grammar in one line: the terminals but the end marker, each with its level, the nonterminals, the sides, Start, and the productions, each with its level.
func told(g api.Grammar) string {
	var terms, nons, sides, prods []string
	for i, term := range g.Terms {
		if i > 0 {
			terms = append(terms, term.Name+"/"+strconv.Itoa(term.Level))
		}
	}
	nons = append(nons, g.Nons...)
	sides = append(sides, numbers(g.Levels)...)
	for _, p := range g.Prods {
		right := append([]string{strconv.Itoa(p.Left) + ":"}, numbers(p.Right)...)
		prods = append(prods, strings.Join(right, " ")+"/"+strconv.Itoa(p.Level))
	}
	parts := []string{strings.Join(terms, " "), strings.Join(nons, " "), strings.Join(sides, " "), strconv.Itoa(g.Start), strings.Join(prods, ", ")}
	return strings.Join(parts, " | ")
}

func numbers(list []int) []string {
	var texts []string
	for _, n := range list {
		texts = append(texts, strconv.Itoa(n))
	}
	return texts
}

// wantRead wants that the text is a grammar's: the one that is told so.
func wantRead(t *testing.T, text, want string) {
	t.Helper()
	g, mishap := spec.Read(text)
	if mishap.Code != api.OK || mishap.At != 0 || mishap.Cycle != nil {
		t.Errorf("Read(%s) answers %v", short(text), mishap)
		return
	}
	if got := told(g); got != want {
		t.Errorf("Read(%s) is\n%s, want\n%s", short(text), got, want)
	}
	if !gram.Valid(g) {
		t.Errorf("Read(%s) isn't plain: %v", short(text), g)
	}
	wantPlace(t, text, -1)
}

// wantMishap wants that Read answers an error, and nothing else.
func wantMishap(t *testing.T, text string, code api.Errno, at int) {
	t.Helper()
	g, mishap := spec.Read(text)
	if mishap.Code != code || mishap.At != at || mishap.Cycle != nil {
		t.Errorf("Read(%s) answers %v, want %d at %d", short(text), mishap, code, at)
	}
	if !gram.Same(g, api.Grammar{}) {
		t.Errorf("Read(%s) answers a grammar beside an error: %v", short(text), g)
	}
}

func wantBad(t *testing.T, text string, at int) {
	t.Helper()
	wantMishap(t, text, api.ErrSyntax, at)
	wantPlace(t, text, at)
}

func wantTooBig(t *testing.T, text string) {
	t.Helper()
	wantMishap(t, text, api.ErrTooBig, 0)
	wantPlace(t, text, -1)
}

func wantPlace(t *testing.T, text string, at int) {
	t.Helper()
	if got := spec.Bad(text); got != at {
		t.Errorf("Bad(%s) = %d, want %d", short(text), got, at)
	}
}

// wantBadMark wants that the text without its mark, ^, is bad where that stands.
func wantBadMark(t *testing.T, marked string) {
	t.Helper()
	ahead, behind, _ := strings.Cut(marked, "^")
	wantBad(t, ahead+behind, len(ahead))
}

// names are n unlike names with a blank ahead of each.
func names(prefix string, n int) string {
	text := ""
	for i := range n {
		text += " " + prefix + strconv.Itoa(i)
	}
	return text
}

// rules are rules of n unlike names.
func rules(n int) string {
	text := ""
	for i := range n {
		text += "n" + strconv.Itoa(i) + " : ; "
	}
	return text
}

// P4.1

func TestBadPlacesOfTheExamples(t *testing.T) {
	for _, marked := range []string{
		"^", "s^", "s :^",
		"%start s; r : ;^", "%start s; ^%start s; s : ;", "%token x ^x; s : ;", "%left x; %token ^x; s : ;",
		"%left x; %right y ^x; s : ;", "%left^; s : ;", "%start ^'s'; s : ;", "s : %prec ^;", "s : a %none ^b ;",
		"s : ; ^%left x;", "s : ^$ ;", "s : 'x ;^", "s : ; ^;", "s : 'x' ; ^%left 'x';",
	} {
		wantBadMark(t, marked)
	}
	wantPlace(t, "s : ;", -1)
}

func TestWordsThatCannotBeginAText(t *testing.T) {
	for _, marked := range []string{"^: ;", "^; s : ;", "^| s : ;", "^'s' : ;", "^%prec x; s : ;", "^%none; s : ;", " # x\n^'%left' x;", "^';'", "%token x; ^;", "%token x; ^'s' : ;", "%token x; ^:", "%token x; ^|", "%token x; ^%prec x;", "%left x; ^%none;"} {
		wantBadMark(t, marked)
	}
}

func TestHeadersHaveTermsAndAnEnd(t *testing.T) {
	for _, order := range []string{"%token", "%left", "%right", "%nonassoc"} {
		for _, behind := range []string{"^; s : ;", "^: ;", "^| x", "^%token x;", "^%left x;", "^%prec x;", "^%none", "^", "   ^", "x^", "x 'y'   ^", "x ^: ;", "'x' ^| ;", "x ^%token y;", "x ^%prec y;", "x y ^%start s;", "x s ^: ;", "x;^", "';'^", "';' ^:"} {
			wantBadMark(t, order+" "+behind)
		}
		wantPlace(t, order+" x 'y' ';' ':' '%left'; s : ;", -1)
		wantPlace(t, order+"'x''y';s:;", -1)
	}
	for _, behind := range []string{"^; s : ;", "^: ;", "^%token x;", "^'s'; s : ;", "^';'", "^", "  ^", "s^", "s ^s; s : ;", "s ^'x'; s : ;", "s ^: ;", "s ^| ;", "s ^%token x;", "s;^", "s; # remark^"} {
		wantBadMark(t, "%start "+behind)
	}
}

func TestTokensThatCameAhead(t *testing.T) {
	for _, marked := range []string{
		"%token x ^x;", "%token x y ^x;", "%token x ^'x';", "%token 'x' ^x;", "%token '+' ^'+'; s : ;",
		"%token x; %token ^x;", "%token x; %token y z ^x;", "%left x; %token ^x;", "%right x; %token y ^'x';", "%nonassoc 'x'; %token ^x;",
		"%token x; %left x; %token ^x;", "%token a; %start s; %left b; %token c ^b;",
	} {
		wantBadMark(t, marked)
	}
	wantPlace(t, "%token x; %left x; s : ;", -1)
	wantPlace(t, "%token x y; %token z 'x '; s : ;", -1)
	wantPlace(t, "%start s; %token s; s : ;", -1)
	wantPlace(t, "%token X x _x x_; s : ;", -1)
}

func TestTermsThatHaveALevelAlready(t *testing.T) {
	orders := []string{"%left", "%right", "%nonassoc"}
	for _, first := range orders {
		for _, marked := range []string{"x ^x;", "x ^'x';", "'x' y ^x;"} {
			wantBadMark(t, first+" "+marked)
			wantBadMark(t, "%token x y; "+first+" "+marked)
		}
		for _, second := range orders {
			for _, marked := range []string{"x; %s ^x;", "x; %s ^'x';", "'x'; %s y ^x;", "x; %token z; %s y ^x;", "x; %start s; %s y; %token q; %s z ^x;"} {
				wantBadMark(t, first+" "+strings.ReplaceAll(marked, "%s ", second+" "))
			}
			wantPlace(t, first+" x; "+second+" y 'x '; s : ;", -1)
			wantPlace(t, "%token x y; "+first+" x; "+second+" y; s : ;", -1)
		}
	}
}

func TestOneStartAlone(t *testing.T) {
	for _, marked := range []string{
		"%start s; ^%start s; s : ;", "%start s; ^%start r; s : ; r : ;", "%start s; %token x; %left y; ^%start", "%start s; ^%start $",
		"%start s; s : ; ^%start s;", "s : ; ^%start s;", "s : ^%start s;",
	} {
		wantBadMark(t, marked)
	}
}

func TestStartNamesARule(t *testing.T) {
	for _, marked := range []string{"%start s; r : s ;^", "%start s; r : 's' ; t : s %prec s ; # s : ;\n ^", "%token s; %start s; r : s | s ;^", "%start s; S : ;^"} {
		wantBadMark(t, marked)
	}
	wantBadMark(t, "%start s; r : ; ^$")
	wantBadMark(t, "%start s; r : ; ^;")
	wantBadMark(t, "%start s; r : ; s :^")
	for _, text := range []string{"%start s; s : ;", "%start s; r : ; t : ; s : ;", "%start s; s : ; r : ; s : ;"} {
		wantPlace(t, text, -1)
	}
}

func TestWordsThatCannotStandInRules(t *testing.T) {
	for _, marked := range []string{
		"s ^s : ;", "s ^'x' : ;", "s ^; : ;", "s ^| ;", "s ^%prec x ;", "s ^':' ;", "s : ^: ;", "s : x ^: ;", "s : 'x' ^: ;", "s : | ^: ;",
		"s : ^%token x ;", "s : x ^%left x ;", "s : x ^%right", "s : ^%nonassoc", "s : ^%start s;",
		"s : x %prec ^;", "s : x %prec ^| ;", "s : x %prec ^: ;", "s : x %prec ^%none ;", "s : %prec ^%prec x ;", "s : x %prec x ^x ;", "s : x %prec x ^'x' ;", "s : x %prec x ^%prec x ;", "s : x %prec 'x' ^%none ;", "s : %prec x ^: ;",
		"s : %none ^x ;", "s : %none ^'x' ;", "s : %none ^: ;", "s : x %none ^%none ;", "s : x %none ^%prec x ;", "s : | %none ^x | ;",
		"s : ; ^: ;", "s : ; ^| ;", "s : ; ^; ;", "s : ; ^'x' ;", "s : ; ^%none", "s : ; r ^r", "s : ; r ^;", "s : ; ^%token x ; r : ;",
	} {
		wantBadMark(t, marked)
	}
}

func TestTextsThatEndTooEarly(t *testing.T) {
	for _, text := range []string{
		"", " ", "\n\n", "# s : ;", "%token", "%token x", "%token x ", "%token x;", "%start", "%start s", "%start s;", "%left 'x' ; %right y # ;\n",
		"s", "s ", "s :", "s :\t", "s : x", "s : x 'y' ", "s : |", "s : x |", "s : %prec", "s : x %prec x", "s : x %none", "s : x %none | x",
		"s : ; r", "s : ; r :", "s : ; r : x | y %prec z # ; ", "s : ';' ", "%start s; r : ; ",
	} {
		wantBad(t, text, len(text))
	}
}

func TestPlacesOfWhatIsNoWord(t *testing.T) {
	for _, marked := range []string{
		"^$", "s ^$ : ;", "s : ; ^$", "s : ;^$", "s : ; # x\n^\x00", "s : ; r:^1", "s : ; '^'", "s : ; 'x^", "s : ; %^", "s : ; r : ; %lef^", "s : ; %lef^f x;", "s : ; %left^t x;", "%^x", "%left^1 x", "%left x; %left 'y^\n'",
		"s : " + strings.Repeat("a", 16) + "^a ;", "s : '" + strings.Repeat("a", 16) + "^a' ;", "s : x^\xff ;", "%token x ^$ x;",
	} {
		wantBadMark(t, marked)
	}
}

func TestTheFirstOfBothPlacesIsTold(t *testing.T) {
	// A word that can't stand there comes ahead of what is no word behind it,
	for _, marked := range []string{"^; $", "s ^; $", "s ^;$", "s ^'x'$", "s : ; ^; '", "s : ^: %x", "%left x ^x $", "%left x ^x$", "%start s; ^%start$", "%token x ^x %lef", "s : ^%token$", "s : ; ^%left1"} {
		wantBadMark(t, marked)
	}
	// but a word that the bad byte goes on with is none.
	for _, marked := range []string{"s : ; %left^t", "s " + strings.Repeat("x", 16) + "^x", "s : ^$ ; ;", "%left x '^' x", "%start s; %start^s $", "s '^"} {
		wantBadMark(t, marked)
	}
}

func TestTextsThatAreTooLong(t *testing.T) {
	full := strings.Repeat(" ", api.MaxText)
	at := func(text string) string { return text + full[len(text):] }
	wantPlace(t, at("s : ;"), -1)
	wantPlace(t, full[:api.MaxText-5]+"s : ;", -1)
	wantPlace(t, "s : ; #"+strings.Repeat("$", api.MaxText-7), -1)
	wantPlace(t, "s :"+strings.Repeat(" x", (api.MaxText-4)/2)+";", -1)
	wantBad(t, full, api.MaxText)
	wantBad(t, at("%start s; r : ;"), api.MaxText)
	wantBad(t, at("$"), 0)
	wantBad(t, at("s : ; ;"), 6)
	wantBad(t, full[:api.MaxText-1]+"$", api.MaxText-1)
	wantBad(t, full[:api.MaxText-1]+";", api.MaxText-1)
	for _, text := range []string{at("s : ;") + " ", at("s : ; ;") + " ", at("$") + " ", at("%left x x;") + "#", " " + full, strings.Repeat("$", 8193), strings.Repeat("s:;", 8192), at(at("")) + full, strings.Repeat("x", 1<<20)} {
		wantBad(t, text, api.MaxText)
	}
}

// P4.2

func TestReadOfTheExamples(t *testing.T) {
	wantRead(t, "e : e '+' n | n ;", "+/0 n/0 | e |  | 3 | 3: 3 1 2/0, 3: 2/0")
	wantRead(t, "%left a; s : a b 'b' ; b : ;", "a/1 b/0 | s b | 1 | 3 | 3: 1 4 2/0, 4:/0")
	wantRead(t, "%token x y; %left y; s : y %none | x %prec y ;", "x/0 y/1 | s | 1 | 3 | 3: 2/0, 3: 1/1")
	wantRead(t, "s : ;", " | s |  | 1 | 1:/0")
	wantTooBig(t, "s :"+names("t", 65)+" ;")
}

func TestTheEndMarkerComesFirst(t *testing.T) {
	for _, text := range []string{"s : ;", "s : x ;", "%left x; s : ;"} {
		if g, _ := spec.Read(text); len(g.Terms) == 0 || g.Terms[0] != (api.Term{}) {
			t.Errorf("the terminals of %s are %v", short(text), g.Terms)
		}
	}
}

func TestNamesWithARuleAnywhereAreNonterminals(t *testing.T) {
	wantRead(t, "s : r r ; r : s ;", " | s r |  | 1 | 1: 2 2/0, 2: 1/0")
	wantRead(t, "s : a b c ; c : 'a' ; b : a ;", "a/0 | s c b |  | 2 | 2: 1 4 3/0, 3: 1/0, 4: 1/0")
	wantRead(t, "s : r 'r' 's' s ; r : ;", "r/0 s/0 | s r |  | 3 | 3: 4 1 2 3/0, 4:/0")
	wantRead(t, "s : 'r' ; t : r ;", "r/0 | s t |  | 2 | 2: 1/0, 3: 1/0")
	wantRead(t, "%start s; r : s ; s : r ;", " | r s |  | 2 | 1: 2/0, 2: 1/0")
	wantRead(t, "s : S s ; ", "S/0 | s |  | 2 | 2: 1 2/0")
}

func TestNamesInHeadersAndBehindPrecAreTerminals(t *testing.T) {
	wantRead(t, "%token s; s : s 's' ;", "s/0 | s |  | 2 | 2: 2 1/0")
	wantRead(t, "%left r s; s : r s ; r : ;", "r/1 s/1 | s r | 1 | 3 | 3: 4 3/0, 4:/0")
	wantRead(t, "%left r; s : 'r' r ; r : r ;", "r/1 | s r | 1 | 2 | 2: 1 3/1, 3: 3/0")
	wantRead(t, "s : x %prec s ;", "x/0 s/0 | s |  | 3 | 3: 1/0")
	wantRead(t, "%right s; s : x %prec s | s ;", "s/1 x/0 | s | 2 | 3 | 3: 2/1, 3: 3/0")
	wantRead(t, "%nonassoc 'r'; s : r %prec r ; r : ;", "r/1 | s r | 3 | 2 | 2: 3/1, 3:/0")
}

func TestTerminalsStandAsTheyFirstCome(t *testing.T) {
	wantRead(t, "%token c; %left b 'c'; %right a; s : d a e %prec f | g b %prec d ; h : i ;", "c/1 b/1 a/2 d/0 e/0 f/0 g/0 i/0 | s h | 1 2 | 9 | 9: 4 3 5/0, 9: 7 2/0, 10: 8/0")
	wantRead(t, "s : b 'a' 'b' a c ; c : a ;", "b/0 a/0 | s c |  | 3 | 3: 1 2 1 2 4/0, 4: 2/0")
	wantRead(t, "s : x %prec y | z ;", "x/0 y/0 z/0 | s |  | 4 | 4: 1/0, 4: 3/0")
	wantRead(t, "%token a 'b c' d; s : ;", "a/0 b c/0 d/0 | s |  | 4 | 4:/0")
}

func TestNonterminalsStandAsTheirFirstRulesDo(t *testing.T) {
	wantRead(t, "%start b; c : b a ; b : ; c : ; a : ; b : a ;", " | c b a |  | 2 | 1: 2 3/0, 2:/0, 1:/0, 3:/0, 2: 3/0")
	wantRead(t, "z : y x ; x : ; y : ;", " | z x y |  | 1 | 1: 3 2/0, 2:/0, 3:/0")
}

func TestProductionsStandAsTheirRowsDo(t *testing.T) {
	wantRead(t, "s : a | | b | a ; r : b | ; s : a b | a ;", "a/0 b/0 | s r |  | 3 | 3: 1/0, 3:/0, 3: 2/0, 3: 1/0, 4: 2/0, 4:/0, 3: 1 2/0, 3: 1/0")
}

func TestLevelsRiseAndHaveTheirSides(t *testing.T) {
	wantRead(t, "%nonassoc a; %token d; %left b c; %right d; %left 'e'; s : ;", "a/1 d/3 b/2 c/2 e/4 | s | 3 1 2 1 | 6 | 6:/0")
	wantRead(t, "%left a; %left b; %right c; %right d; %nonassoc e; %nonassoc f; s : ;", "a/1 b/2 c/3 d/4 e/5 f/6 | s | 1 1 2 2 3 3 | 7 | 7:/0")
	wantRead(t, "%token a; s : a ;", "a/0 | s |  | 2 | 2: 1/0")
	text, terms, sides := "", "", ""
	for i := range 63 {
		text += "%left t" + strconv.Itoa(i) + ";"
		terms += "t" + strconv.Itoa(i) + "/" + strconv.Itoa(i+1) + " "
		sides += "1 "
	}
	wantRead(t, text+"s : t62 t61;", terms+"| s | "+sides+"| 64 | 64: 63 62/62")
}

func TestLevelsOfProductions(t *testing.T) {
	const headers = "%left a; %right b; %token c; s : "
	const ahead = "a/1 b/2 c/0 | s | 1 2 | 4 | 4:"
	for row, want := range map[string]string{
		"a":                 " 1/1",
		"a s":               " 1 4/1",
		"a s b s":           " 1 4 2 4/2",
		"b a":               " 2 1/1",
		"b c":               " 2 3/0",
		"c b":               " 3 2/2",
		"s":                 " 4/0",
		"":                  "/0",
		"c":                 " 3/0",
		"b %none":           " 2/0",
		"%none":             "/0",
		"s %none":           " 4/0",
		"b %prec a":         " 2/1",
		"b %prec 'a'":       " 2/1",
		"%prec b":           "/2",
		"s %prec b":         " 4/2",
		"c %prec a":         " 3/1",
		"a b %prec c":       " 1 2/0",
		"a 'b' s %prec 'b'": " 1 2 4/2",
	} {
		wantRead(t, headers+row+" ;", ahead+want)
	}
	wantRead(t, "%left a; s : a %prec b | a | a %none | b %prec a ;", "a/1 b/0 | s | 1 | 3 | 3: 1/0, 3: 1/1, 3: 1/0, 3: 2/1")
}

func TestStartIsTheOneNamedOrTheFirst(t *testing.T) {
	wantRead(t, "a : ; b : ; c : ;", " | a b c |  | 1 | 1:/0, 2:/0, 3:/0")
	for i, non := range []string{"a", "b", "c"} {
		wantRead(t, "%token x; %start "+non+"; %left y; a : ; b : ; c : ;", "x/0 y/1 | a b c | 1 | "+strconv.Itoa(3+i)+" | 3:/0, 4:/0, 5:/0")
	}
}

func TestWordsBetweenQuotesAreTerminals(t *testing.T) {
	wantRead(t, "%left '%left' ';' ; s : ':' '|' ';' '%prec' '%none' '#' ' ' | '%start' ;", "%left/1 ;/1 :/0 |/0 %prec/0 %none/0 #/0  /0 %start/0 | s | 1 | 10 | 10: 3 4 2 5 6 7 8/0, 10: 9/0")
	wantRead(t, "s : x %prec ';' ;", "x/0 ;/0 | s |  | 3 | 3: 1/0")
}

func TestSymbolsAreAtMostMaxSyms(t *testing.T) {
	for _, text := range []string{
		"s :" + names("t", 63) + " ;",
		"%token" + names("t", 63) + "; s : ;",
		"%left" + names("t", 63) + "; s : t62 ;",
		"%token" + names("t", 62) + "; s : %prec p ;",
		"%token" + names("t", 62) + "; s : s 's' ;",
		"%token" + names("t", 40) + "; s :" + names("t", 63) + " ;",
		rules(64),
		rules(32) + "n0 :" + names("t", 32) + ";",
	} {
		g, mishap := spec.Read(text)
		if mishap.Code != api.OK || len(g.Terms)-1+len(g.Nons) != api.MaxSyms || !gram.Valid(g) {
			t.Errorf("Read(%s) answers %v with %d and %d symbols, want %d in all", short(text), mishap, len(g.Terms), len(g.Nons), api.MaxSyms)
		}
	}
	for _, text := range []string{
		"s :" + names("t", 64) + " ;",
		"%token" + names("t", 64) + "; s : ;",
		"%right" + names("t", 64) + "; s : ;",
		"%token" + names("t", 63) + "; s : ; r : ;",
		"%token" + names("t", 63) + "; s : %prec p ;",
		"%token" + names("t", 63) + "; s : 's' ;",
		"%token" + names("t", 30) + "; s :" + names("t", 64) + " ;",
		rules(65),
		rules(64) + "n0 : x;",
		"%token" + names("t", 500) + "; s : ;",
	} {
		wantTooBig(t, text)
	}
}

func TestProductionsAreAtMostMaxProds(t *testing.T) {
	for _, text := range []string{
		"s :" + strings.Repeat(" x |", 95) + " ;",
		strings.Repeat("s : x %none ;", 96),
		strings.Repeat("s : x | ; r : %prec x ;", 32),
	} {
		g, mishap := spec.Read(text)
		if mishap.Code != api.OK || len(g.Prods) != api.MaxProds || !gram.Valid(g) {
			t.Errorf("Read(%s) answers %v with %d productions, want %d", short(text), mishap, len(g.Prods), api.MaxProds)
		}
		wantTooBig(t, text+"s : ;")
		wantTooBig(t, text+"s : x | %none ; r : ;")
	}
	wantTooBig(t, strings.Repeat("s:;", 2700))
	wantTooBig(t, "s :"+strings.Repeat("|", 8000)+names("t", 20)+";")
}

func TestABadTextIsBadAheadOfTooBig(t *testing.T) {
	many := "s :" + strings.Repeat("|", 200) + names("t", 100)
	wantBad(t, many, len(many))
	wantBad(t, many+" ; ;", len(many)+3)
	wantBad(t, many+" ; $", len(many)+3)
	wantBad(t, "%start r;"+many+" ;", 9+len(many)+2)
	wantTooBig(t, many+" ;")
	wantBad(t, "%token"+names("t", 100)+" t7; s : ;", len(names("t", 100))+7)
	wantBad(t, many+" ;"+strings.Repeat(" ", api.MaxText), api.MaxText)
}

// R3, R4

func TestAGrammarThatIsReadIsNewMemory(t *testing.T) {
	text := "%left plus; sum : sum plus num | num %prec plus ; num : 'num' ;"
	first := uintptr(unsafe.Pointer(unsafe.StringData(text)))
	g, _ := spec.Read(text)
	texts := slices.Clone(g.Nons)
	for _, term := range g.Terms {
		texts = append(texts, term.Name)
	}
	for _, s := range texts {
		if at := uintptr(unsafe.Pointer(unsafe.StringData(s))); at >= first && at < first+uintptr(len(text)) {
			t.Errorf("%q lies in the text that was handed in", s)
		}
	}
	want := told(g)
	again, _ := spec.Read(text)
	clear(g.Terms[:cap(g.Terms)])
	clear(g.Nons[:cap(g.Nons)])
	clear(g.Levels[:cap(g.Levels)])
	for i, p := range g.Prods {
		clear(p.Right[:cap(p.Right)])
		if i+1 < len(g.Prods) && len(g.Prods[i+1].Right) > 0 && g.Prods[i+1].Right[0] == 0 {
			t.Errorf("the Right of production %d shares memory with the one behind it", i)
		}
	}
	clear(g.Prods[:cap(g.Prods)])
	if later, _ := spec.Read(text); told(again) != want || told(later) != want {
		t.Errorf("Read tells %s and %s, when another answer was cleared; want %s", told(again), told(later), want)
	}
}
