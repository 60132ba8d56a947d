package image_test

import (
	"fmt"
	"slices"
	"strconv"
	"strings"
	"testing"

	"presage/api"
	"presage/forge"
	"presage/gram"
	"presage/image"
)

// systemOf is the system of a text.
func systemOf(t *testing.T, text string) *forge.System {
	t.Helper()
	s, m := forge.Read(text)
	if m.Code != api.OK {
		t.Fatalf("%.200q is no system: %d", text, m.Code)
	}
	return s
}

// systemBy is the system of a grammar.
func systemBy(t *testing.T, g api.Grammar) *forge.System {
	t.Helper()
	s, m := forge.Of(g)
	if m.Code != api.OK {
		t.Fatalf("%v is no system: %d", g, m.Code)
	}
	return s
}

// toldGrammar is a grammar as a text; lists without elements are alike, nil or not.
func toldGrammar(g api.Grammar) string {
	var terms []string
	for _, term := range g.Terms {
		terms = append(terms, fmt.Sprintf("%q/%d", term.Name, term.Level))
	}
	return fmt.Sprintf("%s %q %d %d %d", terms, g.Nons, g.Levels, g.Start, g.Prods)
}

// toldAll is all that a system tells, as a text.
func toldAll(s *forge.System) string {
	return fmt.Sprintln(toldGrammar(s.Grammar()), s.Automaton(), s.Looks(), s.Settled(), s.Packed(), s.Clear())
}

// wantThereAndBack wants the image of a system that the document says, and that system of it again; it tells the image.
func wantThereAndBack(t *testing.T, s *forge.System) string {
	t.Helper()
	b, err := image.Encode(s)
	if want := saidImage(s); err != api.OK || b != want {
		t.Fatalf("Encode of %s answers %x, %d; want %x", toldGrammar(s.Grammar()), b, err, want)
	}
	d, err := image.Decode(b)
	if err != api.OK || d == nil {
		t.Fatalf("Decode of the image of %s answers %d", toldGrammar(s.Grammar()), err)
	}
	if got, want := toldAll(d), toldAll(s); got != want {
		t.Errorf("the image of a system is read as %s; it told %s", got, want)
	}
	return b
}

// wantNone wants that bytes are no image, for this error.
func wantNone(t *testing.T, what, b string, want api.Errno) {
	t.Helper()
	if d, err := image.Decode(b); d != nil || err != want {
		t.Errorf("%s: Decode(%.300x) answers %v, %d; want none, %d", what, b, d != nil, err, want)
	}
}

// example is the chapter's image but for the sum.
const example = "PRSG\x01" + "\x01\x01x\x00" + "\x01\x01s" + "\x00" + "\x01" + "\x01\x01\x00\x01\x01" + "\x02\x00\x01\x00" +
	"\x00\x00\x00\x00\x00\x00" + "\x00\x02" + "\x00\xff\x00\x03" + "\x01\x02\x00\x01" + "\x00\x00\x00\x03" + "\x00\x00\x00\x00" + "\x00\x00" + "\x01" + "\x00\x00"

const (
	operators = "%left '+'; %left '*'; e : e '+' e | e '*' e | n ;"
	sums      = "e : e '+' t | t ; t : n ;"
	mixed     = "s : a 'x' | 'y' a 'z' | b 'z' | 'y' b 'x' ; a : 'w' ; b : 'w' ;"
	less      = "%nonassoc '<'; e : e '<' e | n ;"
	nothing   = "s : a 'b' ; a : ;"
	pairs     = "s : 'a' a 'd' | 'b' b 'd' | 'a' b 'e' | 'b' a 'e' ; a : 'c' ; b : 'c' ;"
)

// P18.1: the sum

func TestSum(t *testing.T) {
	for text, want := range map[string]uint32{
		"": 2166136261, "a": 3826002220, "b": 0xe70c2de5, "ab": 0x4d2505ca, "ba": 0x3c2ba6cc, "foobar": 0xbf9cf968,
		"\x00": 0x050c5d1f, "\x00\x00": 0x117697cd, "\xff": 0x7a0b824e, "chongo was here!\n": 0xd49930d5,
	} {
		if got := image.Sum(text); got != want {
			t.Errorf("Sum(%q) is %x; want %x", text, got, want)
		}
	}
}

// Of bytes of all kinds, those that are no letters too, and of many.
func TestSumOfMany(t *testing.T) {
	r := source(1)
	var all strings.Builder
	for range 4000 {
		all.WriteByte(byte(r(256)))
		b := all.String()
		if got := string(sumBytes(b)); got != saidSum(b) {
			t.Fatalf("Sum of %d bytes is %x; want %x", len(b), got, saidSum(b))
		}
	}
	b := strings.Repeat(all.String(), 500)
	if got := string(sumBytes(b)); got != saidSum(b) {
		t.Errorf("Sum of %d bytes is %x; want %x", len(b), got, saidSum(b))
	}
}

// sumBytes are the bytes of a sum, the highest first.
func sumBytes(b string) []byte {
	sum := image.Sum(b)
	return []byte{byte(sum >> 24), byte(sum >> 16), byte(sum >> 8), byte(sum)}
}

// P18.1: writing

// images are written out by hand: the chapter's, one with a side, one with a refusal that is kept, one with a cell that is open.
var images = map[string]string{
	"s : 'x' ;":                         example,
	"%right '+' ; e : e '+' e | n ;":    saidHead + "\x02\x01+\x01\x01n\x00" + "\x01\x01e" + "\x01\x02" + "\x01" + "\x02\x01\x01\x03\x04\x01\x04\x01\x00\x01\x02" + expression + "\x01\x04\x00\x05" + gotos + "\x00" + "\x00\x00",
	"%nonassoc '+' ; e : e '+' e | n ;": saidHead + "\x02\x01+\x01\x01n\x00" + "\x01\x01e" + "\x01\x03" + "\x01" + "\x02\x01\x01\x03\x04\x01\x04\x01\x00\x01\x02" + expression + "\x01\x00\x00\x05" + gotos + "\x00" + "\x00\x00",
	"e : e '+' e | n ;":                 saidHead + "\x02\x01+\x00\x01n\x00" + "\x01\x01e" + "\x00" + "\x01" + "\x02\x01\x00\x03\x04\x01\x04\x01\x00\x01\x02" + expression + "\x01\x04\x00\x05" + gotos + "\x00" + "\x00\x01\x04\x01",
}

const (
	// expression are five states, their defaults, the rows of their actions but for the place of the last one: 2 lies first, then 0, 3, 4.
	expression = "\x04" + "\x00\x02\x00\x00\x01" + "\x00\x00\x00\x00\x00\x00\x00\x01\x00\x03" + "\x00\x05" + "\x00\xff\x00\x03" + "\x01\x04\x00\x03" + "\x01\x02\x00\x01" + "\x01\x02\x00\x04"
	// gotos are the targets, none and 2, and the rows: state 3 leads by e to 4.
	gotos = "\x00\x00\x00\x03" + "\x00\x00\x00\x00" + "\x00\x04" + "\x01\x00\x00\x00" + "\x01\x00\x00\x00" + "\x01\x00\x00\x00" + "\x01\x04\x00\x02"
)

func TestImages(t *testing.T) {
	for text, want := range images {
		if b := wantThereAndBack(t, systemOf(t, text)); b != sealed(want) {
			t.Errorf("the image of %s is %x; want %x", text, b, sealed(want))
		}
	}
}

// The example's sum, in figures.
func TestTheSumOfAnImage(t *testing.T) {
	b := wantThereAndBack(t, systemOf(t, "s : 'x' ;"))
	if end := b[len(example):]; end != string(sumBytes(example)) || image.Sum(example) != 0x7196c829 {
		t.Errorf("the sum is %x, %x", end, image.Sum(example))
	}
}

func TestThereAndBack(t *testing.T) {
	for _, text := range []string{operators, "e : e '+' e | e '*' e | n ;", sums, mixed, less, nothing, pairs, "s : ;", "%token q; s : ;", "s : 'x' | u ; u : u ;", "s : a b | x u ; u : u y | ; a : | 'a' a ; b : b ; a : z ;"} {
		wantThereAndBack(t, systemOf(t, text))
	}
}

// turned is a closed grammar whose nonterminals and productions stand in an order of their own: a : b x | b x a, b : | 'b'.
func turned() api.Grammar {
	return api.Grammar{
		Terms:  []api.Term{{}, {Name: "x", Level: 1}, {Name: "b"}},
		Nons:   []string{"", "b", "a"},
		Levels: []int{api.Right},
		Start:  5,
		Prods:  []api.Prod{{Left: 3, Right: []int{5}}, {Left: 5, Right: []int{4, 1}}, {Left: 4, Level: 1}, {Left: 5, Right: []int{4, 1, 5}}, {Left: 4, Right: []int{2}}},
	}
}

// The start symbol need not be the first one, nor be told by its production.
func TestTheOrderOfAClosedGrammar(t *testing.T) {
	b := wantThereAndBack(t, systemBy(t, turned()))
	want := saidHead + "\x02\x01x\x01\x01b\x00" + "\x02\x01b\x01a" + "\x01\x02" + "\x02" + "\x04\x02\x00\x02\x04\x01\x01\x01\x00\x02\x00\x03\x04\x01\x05\x01\x00\x01\x02"
	if !strings.HasPrefix(b, want) {
		t.Errorf("the image is %x; want %x ahead", b, want)
	}
	wantThereAndBack(t, systemOf(t, "%start c; a : b 'x' ; b : 'z' c | 'y' ; c : a | 'w' b ;"))
}

// All texts that a terminal may have, and names.
func TestTextsAndNames(t *testing.T) {
	for first := byte(32); first < 127; first++ {
		if first == '\'' {
			continue
		}
		s := systemOf(t, "s : '"+string(first)+"' '"+strings.Repeat(string(first), api.MaxName)+"' | Name_of_16_bytes ; Name_of_16_bytes : 's' %none | _ ; _ : 'Name_of_16_bytes' ;")
		wantThereAndBack(t, s)
	}
}

// P18.1, P18.2: the most that there may be

// signs are so many unlike terminals.
func signs(count int) string {
	text := ""
	for i := range count {
		text += "t" + strconv.Itoa(i) + " "
	}
	return text
}

// rowOf is a row of so many x.
func rowOf(length int) string { return strings.Repeat("'x' ", length) }

// The most terminals, all with levels of their own; the most nonterminals; the most productions.
func TestTheMost(t *testing.T) {
	levels := ""
	for i, sign := range strings.Fields(signs(api.MaxSyms - 1)) {
		levels += []string{"%left ", "%right ", "%nonassoc "}[i%3] + sign + "; "
	}
	s := systemOf(t, levels+"s : "+signs(api.MaxSyms-1)+"| t9 %prec t62 ;")
	wantThereAndBack(t, s)
	if g := s.Grammar(); len(g.Terms) != api.MaxSyms || len(g.Levels) != api.MaxSyms-1 || g.Prods[2].Level != api.MaxSyms-1 {
		t.Errorf("the grammar is %v", g)
	}
	text := "n0 : "
	for i := range api.MaxSyms - 1 {
		text += "n" + strconv.Itoa(i+1) + " ; n" + strconv.Itoa(i+1) + " : "
	}
	s = systemOf(t, text+";")
	wantThereAndBack(t, s)
	if g := s.Grammar(); len(g.Terms) != 1 || len(g.Nons) != api.MaxSyms+1 {
		t.Errorf("the grammar is %v", g)
	}
	s = systemOf(t, "s : 'x' "+strings.Repeat("| 'x' ", api.MaxProds-2)+"| y ;")
	wantThereAndBack(t, s)
	if p := s.Packed(); slices.Max(p.Defaults) != api.MaxProds {
		t.Errorf("the defaults are %d", p.Defaults)
	}
}

// All numbers of two bytes that need both: states up to 255 as shifts, targets, gotos, owners.
func TestTheMostStates(t *testing.T) {
	atMost := func(text string, of func(p api.Packed) []int, want int) {
		t.Helper()
		s := systemOf(t, text)
		wantThereAndBack(t, s)
		if p := s.Packed(); len(p.Defaults) != api.MaxStates || slices.Max(of(p)) != want {
			t.Errorf("%.80q has %d states, and at most %d; want %d", text, len(p.Defaults), slices.Max(of(p)), want)
		}
	}
	shifts := func(p api.Packed) []int { return p.Actions.Values }
	targets := func(p api.Packed) []int { return p.Targets }
	owners := func(p api.Packed) []int { return p.Actions.Owners }
	states := func(p api.Packed) []int { return p.Gotos.Values }
	atMost("s : "+rowOf(api.MaxStates-2)+";", shifts, api.MaxStates)
	atMost("s : "+rowOf(api.MaxStates-4)+"a ; a : y ;", targets, api.MaxStates-1)
	levels := "%right '<'; s : " + rowOf(api.MaxStates-6) + "e ; e : e '<' e | n ;"
	atMost(levels, owners, api.MaxStates-1)
	atMost(levels, states, api.MaxStates-1)
	atMost("s : "+rowOf(api.MaxStates-6)+"e ; e : e '<' e | n ;", owners, api.MaxStates-1)
}

// More than 255 open cells, places and bases: a row of so many unlike operators.
func TestTheMostCells(t *testing.T) {
	text := "e : n "
	for i := range api.MaxSyms - 2 {
		text += "| e 'o" + strconv.Itoa(i) + "' e "
	}
	s := systemOf(t, text+";")
	b := wantThereAndBack(t, s)
	open, p := s.Settled().Conflicts, s.Packed()
	if want := (api.MaxSyms - 2) * (api.MaxSyms - 2); len(open) != want || !strings.Contains(b, "\x00"+twos(want)) {
		t.Errorf("%d cells are open; want %d", len(open), want)
	}
	if len(p.Actions.Values) < 256 || slices.Max(p.Actions.Bases) < 256 || open[len(open)-1].State < 120 || slices.Max(p.Defaults) != api.MaxSyms-1 {
		t.Errorf("%d places, the bases %d", len(p.Actions.Values), p.Actions.Bases)
	}
}

// P18.1, P18.2: nothing

func TestEncodeOfNoSystem(t *testing.T) {
	refused, _ := forge.Read("s : s ;")
	for what, s := range map[string]*forge.System{"nil": nil, "a zero one": {}, "new": new(forge.System), "refused": refused} {
		if b, err := image.Encode(s); b != "" || err != api.ErrArg {
			t.Errorf("%s: Encode answers %x, %d", what, b, err)
		}
	}
}

// P18.2: the head

func TestAnotherHead(t *testing.T) {
	b := wantThereAndBack(t, systemOf(t, sums))
	for length := range len(saidHead) {
		wantNone(t, "the head cut", saidHead[:length], api.ErrHead)
		// Ahead of the sum, which holds here.
		wantNone(t, "the head cut, and a sum", sealed(saidHead[:length]), api.ErrHead)
		wantNone(t, "a byte missing", sealed(b[:length]+b[length+1:len(b)-4]), api.ErrHead)
	}
	for at := range len(saidHead) {
		for by := range 256 {
			if byte(by) == saidHead[at] {
				continue
			}
			other := saidHead[:at] + string([]byte{byte(by)}) + saidHead[at+1:]
			wantNone(t, "another head alone", other, api.ErrHead)
			wantNone(t, "another head", other+b[5:], api.ErrHead)
			wantNone(t, "another head, and its sum", sealed(other+b[5:len(b)-4]), api.ErrHead)
		}
	}
	for _, other := range []string{"prsg\x01", "PRSG\x00", "PRSG\x02", "PRSG1", "GSRP\x01", "RSG\x01P", " PRSG\x01", "\x01PRSG", "\xef\xbb\xbfPRSG\x01"} {
		wantNone(t, "another head, and its sum", sealed(other+b[5:len(b)-4]), api.ErrHead)
	}
}

// P18.2: the sum

func TestTooFewForASum(t *testing.T) {
	whole := sealed(saidHead)
	for length := len(saidHead); length < len(whole); length++ {
		wantNone(t, "cut", whole[:length], api.ErrSum)
	}
	wantNone(t, "with the sum", whole, api.ErrForm)
	for _, end := range []string{saidSum(""), saidSum("P"), saidSum("PR"), saidSum("PRSG")[1:], saidSum(saidHead)[:3], "\x00\x00\x00"} {
		for length := range len(end) {
			wantNone(t, "too few", saidHead+end[:length], api.ErrSum)
		}
	}
}

func TestAnotherSum(t *testing.T) {
	b := wantThereAndBack(t, systemOf(t, sums))
	body, sum := b[:len(b)-4], []byte(b[len(b)-4:])
	slices.Reverse(sum)
	for _, other := range []string{string(sum), "\x00\x00\x00\x00", "\xff\xff\xff\xff", saidSum(body[5:]), saidSum(body + "\x00"), saidSum(b), saidSum(body[:len(body)-1])} {
		wantNone(t, "another sum", body+other, api.ErrSum)
	}
	wantNone(t, "without its sum", body, api.ErrSum)
	wantNone(t, "with half its sum", b[:len(b)-2], api.ErrSum)
	wantNone(t, "a byte behind", b+"\x00", api.ErrSum)
	// Ahead of the form: of no image the sum is told first.
	wantNone(t, "no form, and another sum", saidHead+"\x01\x00\x00\x00\x00", api.ErrSum)
}

// P18.2: the form

// Wherever the bytes end too early, they are no image.
func TestCutAndSealed(t *testing.T) {
	for _, text := range []string{"s : 'x' ;", operators, pairs, less} {
		b := wantThereAndBack(t, systemOf(t, text))
		for length := 5; length < len(b)-4; length++ {
			wantNone(t, "cut", sealed(b[:length]), api.ErrForm)
		}
		for _, more := range []string{"\x00", "\x01", "x", b, b[5:], b[len(b)-4:]} {
			wantNone(t, "longer", sealed(b[:len(b)-4]+more), api.ErrForm)
		}
		wantNone(t, "an image and its sum", sealed(b), api.ErrForm)
		// A byte of a number, or a text, that is told but isn't there.
		for _, more := range []string{"\x01", "\x01\x05", "\xff", "\x00\x01", "\x00\x01\xffs", "\x00\x01\x01s\x00\x01\x01\x01\x00", "\x00\x01\x01s\x00\x01\x01\x01\x00\xff"} {
			wantNone(t, "ends too early", sealed(saidHead+more), api.ErrForm)
		}
	}
}

// Of what stands behind the grammar all hangs on it: another byte there, a byte more, a byte less, and it is no image.
func TestAnotherRest(t *testing.T) {
	for _, text := range []string{"s : 'x' ;", operators, less, pairs, "e : e '+' e | n ;", "s : ;"} {
		s := systemOf(t, text)
		wantThereAndBack(t, s)
		parts := saidParts(s)
		for i, p := range parts {
			if i < 6 {
				continue // the head and the grammar
			}
			with := func(other string) string {
				changed := slices.Clone(parts)
				changed[i].bytes = other
				return sealed(joined(changed))
			}
			for at := range len(p.bytes) {
				for _, by := range []byte{1, 2, 4, 128, 255} {
					wantNone(t, text+": another byte of "+p.name, with(p.bytes[:at]+string([]byte{p.bytes[at] ^ by})+p.bytes[at+1:]), api.ErrForm)
				}
				wantNone(t, text+": a byte less of "+p.name, with(p.bytes[:at]+p.bytes[at+1:]), api.ErrForm)
			}
			for _, by := range []string{"\x00", "\x01", "\xff", "\x00\x00", "\x00\x00\x00\x00", "\x01\x00\x00\x00"} {
				wantNone(t, text+": more ahead of "+p.name, with(by+p.bytes), api.ErrForm)
				wantNone(t, text+": more behind "+p.name, with(p.bytes+by), api.ErrForm)
			}
			if p.bytes != "" {
				wantNone(t, text+": without "+p.name, with(""), api.ErrForm)
			}
		}
	}
}

// What reads by tables, but is not what the grammar's own are: rows laid elsewhere, a default that stands as a row, a value that nobody owns.
func TestOtherTablesForAGrammar(t *testing.T) {
	s := systemOf(t, "s : 'x' ;")
	g := joined(append([]part{{"the head", saidHead}}, saidGrammar(s.Grammar())...))
	for what, change := range map[string]func(p *api.Packed){
		"a row laid one place later": func(p *api.Packed) {
			p.Actions = api.Rows{Bases: []int{1, 0, 0}, Values: []int{-1, 0, 2}, Owners: []int{2, -1, 0}}
		},
		"a base for a row without edges": func(p *api.Packed) { p.Actions.Bases[1] = 1 },
		"a value that nobody owns": func(p *api.Packed) {
			p.Actions.Values, p.Actions.Owners = append(p.Actions.Values, 0), append(p.Actions.Owners, -1)
		},
		"no default, but a row": func(p *api.Packed) {
			p.Defaults[1], p.Actions = -1, api.Rows{Bases: []int{0, 2, 0}, Values: []int{-1, 2, -2}, Owners: []int{2, 0, 1}}
		},
		"no target, but a row": func(p *api.Packed) {
			p.Targets[1], p.Gotos = -1, api.Rows{Bases: []int{0, 0}, Values: []int{2}, Owners: []int{1}}
		},
		"a default where nothing reduces": func(p *api.Packed) { p.Defaults[0] = 1 },
		"a state more":                    func(p *api.Packed) { p.Defaults, p.Actions.Bases = append(p.Defaults, -1), append(p.Actions.Bases, 0) },
		"a nonterminal more":              func(p *api.Packed) { p.Targets, p.Gotos.Bases = append(p.Targets, -1), append(p.Gotos.Bases, 0) },
	} {
		p := s.Packed()
		change(&p)
		wantNone(t, what, sealed(g+joined(saidTables(p, true, nil))), api.ErrForm)
	}
	wantNone(t, "not clear", sealed(g+joined(saidTables(s.Packed(), false, nil))), api.ErrForm)
	wantNone(t, "an open cell", sealed(g+joined(saidTables(s.Packed(), false, []api.Cell{{State: 0, Term: 1}}))), api.ErrForm)
	wantNone(t, "the tables of another", sealed(g+joined(saidParts(systemOf(t, sums))[6:])), api.ErrForm)
	if b := sealed(g + joined(saidTables(s.Packed(), true, nil))); b != wantThereAndBack(t, s) {
		t.Errorf("the image unchanged is %x", b)
	}
	// What levels settled is not clear, though no cell is open.
	s = systemOf(t, operators)
	g = joined(append([]part{{"the head", saidHead}}, saidGrammar(s.Grammar())...))
	wantNone(t, "clear", sealed(g+joined(saidTables(s.Packed(), true, nil))), api.ErrForm)
	wantNone(t, "open", sealed(g+joined(saidTables(s.Packed(), false, []api.Cell{{State: 5, Term: 1}}))), api.ErrForm)
}

// Each of these turns one thing of a closed grammar, so that it is no system's; what stands behind is as it was.
func TestTheImageOfNoGrammar(t *testing.T) {
	for what, turn := range map[string]func(g *api.Grammar){
		"two terminals of a text":           func(g *api.Grammar) { g.Terms[2].Name = g.Terms[1].Name },
		"a quote":                           func(g *api.Grammar) { g.Terms[1].Name = "'" },
		"a text of no bytes":                func(g *api.Grammar) { g.Terms[1].Name = "" },
		"a text of a byte below 32":         func(g *api.Grammar) { g.Terms[1].Name = "\x1f" },
		"a text of a byte above 126":        func(g *api.Grammar) { g.Terms[1].Name = "\x7f" },
		"a text of 17 bytes":                func(g *api.Grammar) { g.Terms[1].Name = strings.Repeat("a", api.MaxName+1) },
		"a text of 255 bytes":               func(g *api.Grammar) { g.Terms[1].Name = strings.Repeat("a", 255) },
		"a level that is none":              func(g *api.Grammar) { g.Terms[1].Level = 3 },
		"a level without a terminal":        func(g *api.Grammar) { g.Levels = append(g.Levels, api.Left) },
		"a side below 1":                    func(g *api.Grammar) { g.Levels[0] = 0 },
		"a side above 3":                    func(g *api.Grammar) { g.Levels[0] = 4 },
		"a name that is none":               func(g *api.Grammar) { g.Nons[1] = "9" },
		"a name of no bytes":                func(g *api.Grammar) { g.Nons[1] = "" },
		"a name of 17 bytes":                func(g *api.Grammar) { g.Nons[1] = strings.Repeat("a", api.MaxName+1) },
		"two of a name":                     func(g *api.Grammar) { g.Nons = append(g.Nons, g.Nons[1]); g.Prods = append(g.Prods, api.Prod{Left: 6}) },
		"a nonterminal without rules":       func(g *api.Grammar) { g.Nons = append(g.Nons, "u") },
		"no nonterminals":                   func(g *api.Grammar) { g.Nons = g.Nons[:1] },
		"no productions":                    func(g *api.Grammar) { g.Prods = g.Prods[:1] },
		"an end marker in a row":            func(g *api.Grammar) { g.Prods[1].Right[0] = 0 },
		"the added one in a row":            func(g *api.Grammar) { g.Prods[1].Right[0] = 4 },
		"a symbol that is none":             func(g *api.Grammar) { g.Prods[1].Right[0] = 6 },
		"the symbol 255":                    func(g *api.Grammar) { g.Prods[1].Right[0] = 255 },
		"the added one as a left side":      func(g *api.Grammar) { g.Prods[1].Left = 4 },
		"a left side that is none":          func(g *api.Grammar) { g.Prods[1].Left = 6 },
		"a production's level that is none": func(g *api.Grammar) { g.Prods[1].Level = 3 },
		"the added one as the start symbol": func(g *api.Grammar) { g.Start = 4 },
		"a start symbol that is none":       func(g *api.Grammar) { g.Start = 6 },
		"too many symbols":                  func(g *api.Grammar) { g.Terms = append(g.Terms, plainTerms(api.MaxSyms)...) },
		"255 terminals":                     func(g *api.Grammar) { g.Terms = append(g.Terms, plainTerms(252)...) },
		"too many productions":              func(g *api.Grammar) { g.Prods = append(g.Prods, slices.Repeat(g.Prods[3:], api.MaxProds-2)...) },
		"255 productions":                   func(g *api.Grammar) { g.Prods = append(g.Prods, slices.Repeat(g.Prods[3:], 252)...) },
		"one that nothing leads to":         func(g *api.Grammar) { g.Nons = append(g.Nons, "u"); g.Prods = append(g.Prods, api.Prod{Left: 6}) },
		"one that derives no row of terminals": func(g *api.Grammar) {
			g.Nons = append(g.Nons, "u")
			g.Prods = append(g.Prods, api.Prod{Left: 5, Right: []int{6}}, api.Prod{Left: 6, Right: []int{6}})
		},
		"a start symbol that derives no row": func(g *api.Grammar) { g.Prods = g.Prods[:3] },
		"a circle":                           func(g *api.Grammar) { g.Prods = append(g.Prods, api.Prod{Left: 5, Right: []int{5}}) },
		"too many states": func(g *api.Grammar) {
			g.Prods = append(g.Prods, api.Prod{Left: 5, Right: slices.Repeat([]int{3}, 255)})
		},
	} {
		s := systemOf(t, operators)
		g := s.Grammar()
		wantThereAndBack(t, s)
		turn(&g)
		if _, m := forge.Of(g); m.Code == api.OK {
			t.Errorf("%s: it is a system's", what)
		}
		rest := joined(saidParts(s)[6:])
		wantNone(t, what, sealed(saidHead+joined(saidGrammar(g))+rest), api.ErrForm)
	}
}

// One more than there may be, with all else as it has to be, is no system's.
func TestOneTooMany(t *testing.T) {
	// of has so many terminals, and productions of nothing, of one terminal, or of so many.
	of := func(terms, prods, length int) api.Grammar {
		g := api.Grammar{Terms: append([]api.Term{{}}, plainTerms(terms)...), Nons: []string{"", "s"}, Start: terms + 2}
		g.Prods = []api.Prod{{Left: terms + 1, Right: []int{g.Start}}, {Left: g.Start, Right: slices.Repeat([]int{1}, length)}}
		for i := range prods - 1 {
			g.Prods = append(g.Prods, api.Prod{Left: g.Start, Right: []int{1 + i%terms}})
		}
		return g
	}
	for what, c := range map[string][2]api.Grammar{
		"symbols":     {of(api.MaxSyms-1, 3, 2), of(api.MaxSyms, 3, 2)},
		"productions": {of(5, api.MaxProds, 2), of(5, api.MaxProds+1, 2)},
		"states":      {of(1, 1, api.MaxStates-2), of(1, 1, api.MaxStates-1)},
	} {
		s := systemBy(t, c[0])
		wantThereAndBack(t, s)
		wantNone(t, "too many "+what, sealed(saidHead+joined(saidGrammar(c[1]))+joined(saidParts(s)[6:])), api.ErrForm)
	}
}

// plainTerms are so many terminals without levels.
func plainTerms(count int) []api.Term {
	var terms []api.Term
	for i := range count {
		terms = append(terms, api.Term{Name: "more" + strconv.Itoa(i)})
	}
	return terms
}

// A name or a text that is turned in a sealed image is another system's: nothing else hangs on it.
func TestANameTurnedAndSealed(t *testing.T) {
	b := wantThereAndBack(t, systemOf(t, sums))
	other := sealed(strings.Replace(strings.Replace(b[:len(b)-4], "\x01+", "\x01-", 1), "\x01t", "\x01_", 1))
	d, err := image.Decode(other)
	if want := systemOf(t, "e : e '-' _ | _ ; _ : n ;"); err != api.OK || toldAll(d) != toldAll(want) {
		t.Errorf("it answers %d, and tells %s; want %s", err, toldAll(d), toldAll(want))
	}
	if !gram.Same(d.Grammar(), systemOf(t, "e : e '-' _ ; e : _ ; _ : n ;").Grammar()) {
		t.Errorf("its grammar is %v", d.Grammar())
	}
}
