package scan_test

import (
	"slices"
	"strconv"
	"strings"
	"testing"
	"unsafe"

	"presage/api"
	"presage/scan"
)

var allOrders = []string{"%token", "%left", "%right", "%nonassoc", "%start", "%prec", "%none"}

func name(text string, at int) scan.Word   { return scan.Word{Kind: scan.Name, Text: text, At: at} }
func quoted(text string, at int) scan.Word { return scan.Word{Kind: scan.Quoted, Text: text, At: at} }
func order(text string, at int) scan.Word  { return scan.Word{Kind: scan.Order, Text: text, At: at} }
func sign(text string, at int) scan.Word   { return scan.Word{Kind: scan.Sign, Text: text, At: at} }

func letters(n int) string { return strings.Repeat("a", n) }

// short is a text as a test's message tells it.
func short(text string) string {
	if len(text) > 60 {
		return strconv.Quote(text[:60]) + ".. of " + strconv.Itoa(len(text)) + " bytes"
	}
	return strconv.Quote(text)
}

func wantEach(t *testing.T, text string, want ...scan.Word) {
	t.Helper()
	if got := slices.Collect(scan.Each(text)); !slices.Equal(got, want) {
		t.Errorf("Each(%s) goes over %v, want %v", short(text), got, want)
	}
}

// wantWords wants that the text is words: these.
func wantWords(t *testing.T, text string, want ...scan.Word) {
	t.Helper()
	got, mishap := scan.Words(text)
	if !slices.Equal(got, want) || mishap.Code != api.OK || mishap.At != 0 || mishap.Cycle != nil {
		t.Errorf("Words(%s) = %v, %v; want %v", short(text), got, mishap, want)
	}
	wantEach(t, text, want...)
}

// wantBad wants that the text isn't words: its bad place, and the words ahead of that which Each tells.
func wantBad(t *testing.T, text string, at int, each ...scan.Word) {
	t.Helper()
	got, mishap := scan.Words(text)
	if len(got) != 0 || mishap.Code != api.ErrSyntax || mishap.At != at || mishap.Cycle != nil {
		t.Errorf("Words(%s) = %v, %v; want ErrSyntax at %d", short(text), got, mishap, at)
	}
	wantEach(t, text, each...)
}

func wantBool(t *testing.T, what string, got, want bool) {
	t.Helper()
	if got != want {
		t.Errorf("%s = %v, want %v", what, got, want)
	}
}

func isLetter(c int) bool { return c >= 'A' && c <= 'Z' || c >= 'a' && c <= 'z' }

func isNameByte(c int) bool { return isLetter(c) || c == '_' || c >= '0' && c <= '9' }

func isBlank(c int) bool { return c == 9 || c == 10 || c == 13 || c == 32 }

// P3.1

func TestKindsHaveTheirNumbers(t *testing.T) {
	if kinds := [...]int{scan.Name, scan.Quoted, scan.Order, scan.Sign}; kinds != [...]int{1, 2, 3, 4} {
		t.Errorf("the kinds are %v", kinds)
	}
}

func TestWordsOfTheExamples(t *testing.T) {
	wantWords(t, "%left '+' ; # x", order("%left", 0), quoted("+", 6), sign(";", 10))
	wantWords(t, "a:b|'c'", name("a", 0), sign(":", 1), name("b", 2), sign("|", 3), quoted("c", 4))
	wantWords(t, "")
	wantWords(t, "# only this")
	wantBad(t, "a $", 2, name("a", 0))
	wantBad(t, "a '", 3, name("a", 0))
	wantBad(t, "''", 1)
	wantBad(t, "%lef", 4)
	wantBad(t, "%lef t", 4)
	wantBad(t, "%leftt", 5)
	wantBad(t, "%lefx", 4)
	wantBad(t, "%", 1)
	wantBad(t, "1a", 0)
	wantBad(t, letters(17), 16)
}

func TestNamesAreOneToMaxNameBytes(t *testing.T) {
	for _, text := range []string{"a", "Z", "_", "_0", "a9", "__", "aZ_09", letters(15), letters(16), "_" + strings.Repeat("9", 15)} {
		wantWords(t, text, name(text, 0))
		wantWords(t, "\t"+text+";", name(text, 1), sign(";", 1+len(text)))
		wantWords(t, text+"'x'", name(text, 0), quoted("x", len(text)))
		wantWords(t, text+"%none", name(text, 0), order("%none", len(text)))
		wantWords(t, text+"#"+text, name(text, 0))
	}
	for _, text := range []string{letters(17), letters(16) + "_", letters(16) + "0", letters(16) + "Z", letters(40), letters(api.MaxText - 2)} {
		wantBad(t, text, 16)
		wantBad(t, "b "+text, 18, name("b", 0))
	}
	wantBad(t, letters(16)+"$", 16, name(letters(16), 0))
	wantBad(t, letters(16)+"\x80", 16, name(letters(16), 0))
}

func TestQuotedsAreOneToMaxNameBytesBetweenQuotes(t *testing.T) {
	for _, inside := range []string{"+", " ", "~", "#", "%", "%left", "\"", "\\", "a b", "# x", ";", letters(15), letters(16), strings.Repeat(" ", 16)} {
		wantWords(t, "'"+inside+"'", quoted(inside, 0))
		wantWords(t, "a'"+inside+"''b'c", name("a", 0), quoted(inside, 1), quoted("b", 3+len(inside)), name("c", 6+len(inside)))
		wantBad(t, "'"+inside, 1+len(inside))
		wantBad(t, "a'"+inside, 2+len(inside), name("a", 0))
		wantBad(t, "'"+inside+"\n'", 1+len(inside))
	}
	for _, inside := range []string{letters(17), letters(16) + " ", letters(16) + "\n", letters(16) + "\xff", letters(100)} {
		wantBad(t, "'"+inside+"'", 17)
		wantBad(t, "'"+inside, 17)
	}
	wantBad(t, "'", 1)
	wantBad(t, "''", 1)
	wantBad(t, "'a''", 4, quoted("a", 0))
	wantBad(t, "'a'''", 4, quoted("a", 0))
	wantBad(t, "'é'", 1)
}

func TestOrdersAreTheSevenAlone(t *testing.T) {
	for _, text := range allOrders {
		end := len(text)
		wantWords(t, text, order(text, 0))
		wantWords(t, " "+text+text+"\r", order(text, 1), order(text, 1+end))
		wantWords(t, text+"_a", order(text, 0), name("_a", end))
		wantWords(t, text+"'a'", order(text, 0), quoted("a", end))
		wantWords(t, text+"#", order(text, 0))
		wantBad(t, text+"1", end, order(text, 0))
		wantBad(t, text+"$", end, order(text, 0))
		wantBad(t, text+text[1:], end)
		wantBad(t, text+"a"+text, end)
		wantBad(t, text+"Z", end)
		wantBad(t, strings.ToUpper(text), 1)
		for cut := 1; cut < end; cut++ {
			wantBad(t, text[:cut], cut)
			wantBad(t, "a"+text[:cut], 1+cut, name("a", 0))
			for _, behind := range []string{" ", ";", "_", "0", "%", "'", "#", "X", "x", "\n", "\x00"} {
				wantBad(t, text[:cut]+behind, cut)
			}
		}
	}
	for text, at := range map[string]int{"%x": 1, "%%": 1, "%_left": 1, "%tleft": 2, "%nonx": 4, "%nonea": 5, "%nonassoe": 8, "%precc": 5, "%pret": 4, "%startoken": 6, "%type": 2, "%union": 1, "%empty": 1, "%nonterm": 4, "%precedence": 5, "%starts": 6} {
		wantBad(t, text, at)
	}
}

func TestOrdersBeginWithTheFirstTwoLettersOfOneOfTheSeven(t *testing.T) {
	const firstTwo = " to le ri no st pr "
	for c := range 128 {
		for d := range 128 {
			if !isLetter(c) || !isLetter(d) {
				continue
			}
			two := string([]byte{byte(c), byte(d)})
			switch {
			case strings.Contains(firstTwo, " "+two+" "):
				wantBad(t, "%"+two, 3)
			case strings.Contains(firstTwo, " "+two[:1]):
				wantBad(t, "%"+two, 2)
			default:
				wantBad(t, "%"+two, 1)
			}
		}
	}
}

func TestEveryByteWhereAWordMayBegin(t *testing.T) {
	for c := range 256 {
		text := string([]byte{byte(c)})
		switch {
		case isBlank(c), c == '#':
			wantWords(t, text)
		case isLetter(c), c == '_':
			wantWords(t, text, name(text, 0))
		case c == ':', c == '|', c == ';':
			wantWords(t, text, sign(text, 0))
		case c == '\'', c == '%':
			wantBad(t, text, 1)
		default:
			wantBad(t, text, 0)
			wantBad(t, " \n"+text+"a", 2)
			wantBad(t, "a ;"+text, 3, name("a", 0), sign(";", 2))
		}
	}
}

func TestEveryByteBehindAName(t *testing.T) {
	for c := range 256 {
		text := "ab" + string([]byte{byte(c)})
		switch {
		case isNameByte(c):
			wantWords(t, text, name(text, 0))
		case isBlank(c), c == '#':
			wantWords(t, text, name("ab", 0))
		case c == ':', c == '|', c == ';':
			wantWords(t, text, name("ab", 0), sign(text[2:], 2))
		case c == '\'', c == '%':
			wantBad(t, text, 3, name("ab", 0))
		default:
			wantBad(t, text, 2, name("ab", 0))
		}
	}
}

func TestEveryByteBehindAnOrder(t *testing.T) {
	for c := range 256 {
		text := "%prec" + string([]byte{byte(c)})
		switch {
		case isLetter(c):
			wantBad(t, text, 5)
		case isBlank(c), c == '#':
			wantWords(t, text, order("%prec", 0))
		case c == '_':
			wantWords(t, text, order("%prec", 0), name("_", 5))
		case c == ':', c == '|', c == ';':
			wantWords(t, text, order("%prec", 0), sign(text[5:], 5))
		case c == '\'', c == '%':
			wantBad(t, text, 6, order("%prec", 0))
		default:
			wantBad(t, text, 5, order("%prec", 0))
		}
	}
}

func TestEveryByteBetweenQuotesAndInARemark(t *testing.T) {
	for c := range 256 {
		text := "'a" + string([]byte{byte(c)}) + "b'"
		switch {
		case c == '\'':
			wantBad(t, text, 5, quoted("a", 0), name("b", 3))
		case c >= 32 && c <= 126:
			wantWords(t, text, quoted(text[1:4], 0))
		default:
			wantBad(t, text, 2)
		}
		remark := "#" + string([]byte{byte(c)}) + ";"
		if c == 10 {
			wantWords(t, remark, sign(";", 2))
		} else {
			wantWords(t, remark)
		}
	}
}

func TestRemarksEndAtTheLinesEnd(t *testing.T) {
	wantWords(t, "#")
	wantWords(t, "#\n")
	wantWords(t, "##\n#\n\n \t\r#x")
	wantWords(t, "# '%lef $\r\x00\xff\na#b\n#c\n;", name("a", 13), sign(";", 20))
	wantWords(t, strings.Repeat("#\n", 4095)+"#a")
	wantWords(t, strings.Repeat("#\n", 4095)+"ab", name("ab", 8190))
	wantBad(t, "# x\n$", 4)
	wantBad(t, "'a#\n'", 3)
}

func TestMaxTextBytesAreAllowedAndNoMore(t *testing.T) {
	if got, mishap := scan.Words(strings.Repeat("a ", api.MaxText/2)); len(got) != api.MaxText/2 || mishap.Code != api.OK || got[4095] != name("a", 8190) {
		t.Errorf("Words of 4096 names in MaxText bytes: %d, %v", len(got), mishap)
	}
	if got, mishap := scan.Words(strings.Repeat("|", api.MaxText)); len(got) != api.MaxText || mishap.Code != api.OK {
		t.Errorf("Words of MaxText signs: %d, %v", len(got), mishap)
	}
	full := strings.Repeat(" ", api.MaxText)
	wantWords(t, full)
	wantWords(t, full[:api.MaxText-3]+"abc", name("abc", api.MaxText-3))
	wantBad(t, full[:api.MaxText-1]+"$", api.MaxText-1)
	wantBad(t, full[:api.MaxText-1]+"'", api.MaxText)
	wantBad(t, full[:api.MaxText-3]+"%no", api.MaxText)
	for _, text := range []string{full + " ", full + "a", "a" + full, "$" + full, "''" + full, full + full, "#" + full, strings.Repeat("$", 9000), letters(8193), strings.Repeat("a", 1<<20)} {
		wantBad(t, text, api.MaxText)
	}
}

// P3.2

func TestEachLeavesOutWhatTheBadByteWouldGoOnWith(t *testing.T) {
	for text, want := range map[string][]scan.Word{
		"a b $ c":           {name("a", 0), name("b", 2)},
		"a b%x":             {name("a", 0), name("b", 2)},
		"a ; 'b":            {name("a", 0), sign(";", 2)},
		"a " + letters(17):  {name("a", 0)},
		"a$":                {name("a", 0)},
		":$":                {sign(":", 0)},
		"'a'$":              {quoted("a", 0)},
		"'a''":              {quoted("a", 0)},
		"%left$":            {order("%left", 0)},
		"%left9 a":          {order("%left", 0)},
		"a %leftt":          {name("a", 0)},
		"a %none%leftt b":   {name("a", 0), order("%none", 2)},
		"a%":                {name("a", 0)},
		"# $\n'b'\xff a # ": {quoted("b", 4)},
		"$ a":               nil,
		"'' a":              nil,
		"%lef a":            nil,
	} {
		wantEach(t, text, want...)
	}
}

func TestEachGoesOverNoneOfATextThatIsTooLong(t *testing.T) {
	wantEach(t, "a "+strings.Repeat(" ", api.MaxText-2), name("a", 0))
	wantEach(t, "a "+strings.Repeat(" ", api.MaxText-1))
	wantEach(t, strings.Repeat("a ", api.MaxText))
}

func TestEachMayBeLeftGoneOverAgainAndWithinItself(t *testing.T) {
	for _, text := range []string{"a b c", "a b c $ d", "a b c'"} {
		all := []scan.Word{name("a", 0), name("b", 2), name("c", 4)}
		each := scan.Each(text)
		for word := range each {
			if word != all[0] {
				t.Errorf("the first one of %q is %v", text, word)
			}
			break
		}
		var outer []scan.Word
		for word := range each {
			outer = append(outer, word)
			if got := slices.Collect(each); !slices.Equal(got, all) {
				t.Errorf("a range over %q within a range goes over %v", text, got)
			}
		}
		if !slices.Equal(outer, all) {
			t.Errorf("a range over %q around ranges goes over %v", text, outer)
		}
	}
	for _, text := range []string{"", " # x", "$", "'", strings.Repeat("a ", api.MaxText)} {
		if scan.Each(text) == nil {
			t.Errorf("Each(%s) is nil", short(text))
		}
	}
}

// P3.3

func TestIsNameAndIsTerm(t *testing.T) {
	for c := range 256 {
		b := string([]byte{byte(c)})
		starts := isLetter(c) || c == '_'
		term := c >= 32 && c <= 126 && c != '\''
		for _, s := range []string{b, b + "a", b + letters(15)} {
			wantBool(t, "IsName("+short(s)+")", scan.IsName(s), starts)
			wantBool(t, "IsTerm("+short(s)+")", scan.IsTerm(s), term)
		}
		for _, s := range []string{"_" + b, "a" + b + "0", letters(15) + b, letters(7) + b + letters(8)} {
			wantBool(t, "IsName("+short(s)+")", scan.IsName(s), isNameByte(c))
			wantBool(t, "IsTerm("+short(s)+")", scan.IsTerm(s), term)
		}
		for _, s := range []string{b + letters(16), letters(16) + b, b + letters(1<<16)} {
			wantBool(t, "IsName("+short(s)+")", scan.IsName(s), false)
			wantBool(t, "IsTerm("+short(s)+")", scan.IsTerm(s), false)
		}
	}
	for s, want := range map[string][2]bool{
		"":                       {false, false},
		letters(16):              {true, true},
		letters(17):              {false, false},
		strings.Repeat("_", 16):  {true, true},
		strings.Repeat(" ", 16):  {false, true},
		strings.Repeat(" ", 17):  {false, false},
		strings.Repeat("9", 16):  {false, true},
		" a":                     {false, true},
		"a ":                     {false, true},
		"a b":                    {false, true},
		"a#":                     {false, true},
		"a\n":                    {false, false},
		"'a'":                    {false, false},
		"%left":                  {false, true},
		"é":                      {false, false},
		strings.Repeat("é", 100): {false, false},
	} {
		wantBool(t, "IsName("+short(s)+")", scan.IsName(s), want[0])
		wantBool(t, "IsTerm("+short(s)+")", scan.IsTerm(s), want[1])
	}
}

// R3

func TestWordsAreNewMemory(t *testing.T) {
	text := strings.Repeat("name 'quoted' %left : | ;", 3)
	first := uintptr(unsafe.Pointer(unsafe.StringData(text)))
	words, _ := scan.Words(text)
	for _, word := range append(words, slices.Collect(scan.Each(text))...) {
		at := uintptr(unsafe.Pointer(unsafe.StringData(word.Text)))
		if at >= first && at < first+uintptr(len(text)) {
			t.Errorf("the Text of %v lies in the text that was handed in", word)
		}
	}
	again, _ := scan.Words(text)
	clear(words[:cap(words)])
	if later, _ := scan.Words(text); !slices.Equal(again, later) {
		t.Errorf("Words tells %v, and %v when another answer was cleared", again, later)
	}
}
