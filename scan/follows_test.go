package scan_test

import (
	"regexp"
	"slices"
	"strings"
	"testing"

	"presage/api"
	"presage/scan"
)

// Here the document's words are said a second time: as patterns, and the bad place by trying all that could go on.

// pieces tells apart what a text is made of, without asking of a Name or an Order whether it may be.
var pieces = regexp.MustCompile(`(?s)^(?:([ \t\n\r]|#[^\n]*)|([A-Za-z_][A-Za-z0-9_]*)|'([ -&(-~]{1,16})'|(%[A-Za-z]*)|([:|;]))`)

// piece is a word that may be none, and its end.
type piece struct {
	scan.Word
	end int
}

func (p piece) isWord() bool {
	switch p.Kind {
	case scan.Name:
		return len(p.Text) <= 16
	case scan.Order:
		return slices.Contains(allOrders, p.Text)
	}
	return true
}

// piecesOf are the pieces but the blanks, up to where none begins; whole tells whether that is the text's end. (Bytes above 127 are one rune each here, so that remarks may have all of them.)
func piecesOf(text string) (list []piece, whole bool) {
	wide := make([]rune, len(text))
	for i := range len(text) {
		wide[i] = rune(text[i])
	}
	at := 0
	for at < len(wide) {
		found := pieces.FindStringSubmatch(string(wide[at:]))
		if found == nil {
			return list, false
		}
		end := at + len([]rune(found[0]))
		for kind := scan.Name; kind <= scan.Sign; kind++ {
			if inside := found[kind+1]; inside != "" {
				list = append(list, piece{scan.Word{Kind: kind, Text: inside, At: at}, end})
			}
		}
		at = end
	}
	return list, true
}

func isWords(text string) bool {
	list, whole := piecesOf(text)
	return whole && !slices.ContainsFunc(list, func(p piece) bool { return !p.isWord() })
}

// begins tells whether a text that is words begins with this one.
func begins(text string) bool {
	if isWords(text) || isWords(text+"'") || isWords(text+"a'") {
		return true
	}
	for _, o := range allOrders {
		for cut := range o {
			if isWords(text + o[cut:]) {
				return true
			}
		}
	}
	return false
}

// badPlace is -1, if the text is words.
func badPlace(text string) int {
	if isWords(text) {
		return -1
	}
	for i := range len(text) {
		if !begins(text[:i+1]) {
			return i
		}
	}
	return len(text)
}

// aheadOf are the words that end ahead of the bad place, and that are the same with the byte there.
func aheadOf(text string, bad int) []scan.Word {
	if bad < 0 {
		bad = len(text)
	}
	list, _ := piecesOf(text[:min(bad+1, len(text))])
	var words []scan.Word
	for _, p := range list {
		if p.isWord() && p.end <= bad {
			words = append(words, p.Word)
		}
	}
	return words
}

func wantAsSaid(t *testing.T, text string) {
	t.Helper()
	bad := badPlace(text)
	if ahead := aheadOf(text, bad); bad < 0 {
		wantWords(t, text, ahead...)
	} else {
		wantBad(t, text, bad, ahead...)
	}
}

// source gives numbers below n that hang on the seed alone.
func source(seed uint64) func(n int) int {
	state := seed*2 + 1
	return func(n int) int {
		state = state*6364136223846793005 + 1442695040888963407
		return int(state>>33) % n
	}
}

// someBlanks are blanks, none or more; a remark among them is ended, so that anything may follow.
func someBlanks(r func(int) int) string {
	blanks := []string{" ", "\t", "\n", "\r", "#\n", "# '$%lef \x00\xff\n", "##;a\r\n", "  "}
	text := ""
	for range r(4) {
		text += blanks[r(len(blanks))]
	}
	return text
}

func someTermText(r func(int) int) string {
	const termBytes = ` #%:;|ab~_09$"\+-`
	text := ""
	for range 1 + r(16) {
		text += string(termBytes[r(len(termBytes))])
	}
	return text
}

func someName(r func(int) int) string {
	const nameBytes = "_abzAZ0189"
	text := string(nameBytes[r(6)])
	for range r(16) {
		text += string(nameBytes[r(len(nameBytes))])
	}
	return text
}

// someWord is a word that may be, as it is written and as it is told.
func someWord(r func(int) int) (string, scan.Word) {
	switch r(4) {
	case 0:
		text := someName(r)
		return text, name(text, 0)
	case 1:
		text := someTermText(r)
		return "'" + text + "'", quoted(text, 0)
	case 2:
		text := allOrders[r(len(allOrders))]
		return text, order(text, 0)
	}
	text := ":|;"[r(3):][:1]
	return text, sign(text, 0)
}

// someText is a text of pieces, most of which may be.
func someText(r func(int) int) string {
	broken := []string{"$", "'", "''", "%", "%lef", "%leftt", "%nonx", "9", "\x00", "\x80", "'a\n'", "'\x7f'", "a'", letters(17), "'" + letters(17) + "'", "#", "# ' %"}
	text := someBlanks(r)
	for range r(7) {
		if r(8) == 0 {
			text += broken[r(len(broken))]
		} else {
			word, _ := someWord(r)
			text += word
		}
		if r(3) > 0 {
			text += someBlanks(r)
		}
	}
	return text
}

// P3.1, P3.2

func TestShortTextsAreReadAsTheDocumentSays(t *testing.T) {
	const few = "a1_'%#\n ;$"
	texts := []string{""}
	for len(texts) > 0 {
		text := texts[0]
		texts = texts[1:]
		wantAsSaid(t, text)
		if len(text) < 4 {
			for i := range len(few) {
				texts = append(texts, text+few[i:i+1])
			}
		}
	}
}

func TestOrdersWithOneByteTurnedAreReadAsTheDocumentSays(t *testing.T) {
	const turned = "aefnortx_0' %#;"
	for _, o := range allOrders {
		for cut := range len(o) + 1 {
			for i := range len(turned) {
				c := turned[i : i+1]
				wantAsSaid(t, o[:cut]+c+o[cut:])
				if cut < len(o) {
					wantAsSaid(t, o[:cut]+c+o[cut+1:])
				}
			}
		}
	}
}

func TestManyTextsAreReadAsTheDocumentSays(t *testing.T) {
	r := source(3)
	good := 0
	for range 4000 {
		text := someText(r)
		wantAsSaid(t, text)
		if isWords(text) {
			good++
		}
	}
	if good < 1000 || good > 3000 {
		t.Errorf("%d of 4000 texts are words: the test looks at one kind too seldom", good)
	}
}

// P3.4

// spelled are words with a gap of blanks ahead of, between and behind them, and what they are told as.
func spelled(words []string, told []scan.Word, gap func() string) (string, []scan.Word) {
	text := gap()
	var placed []scan.Word
	for i, word := range words {
		at := told[i]
		at.At = len(text)
		placed = append(placed, at)
		text += word + gap()
	}
	return text, placed
}

func TestWordsWithBlanksBetweenAreReadAsTheseWords(t *testing.T) {
	r := source(4)
	for range 3000 {
		var words []string
		var told []scan.Word
		for range r(12) {
			word, as := someWord(r)
			words, told = append(words, word), append(told, as)
		}
		for _, gap := range []func() string{
			func() string { return " " },
			func() string { return " " + someBlanks(r) },
			func() string { return "#" + someBlanks(r) + "\n" },
			func() string { return someBlanks(r) + "\t" + someBlanks(r) },
		} {
			text, placed := spelled(words, told, gap)
			wantWords(t, text, placed...)
		}
	}
}

func TestBlanksMoreChangePlacesAlone(t *testing.T) {
	r := source(5)
	for range 4000 {
		text := someText(r)
		words, mishap := scan.Words(text)
		if mishap.Code != api.OK {
			continue
		}
		var wider strings.Builder
		var placed []scan.Word
		end := 0
		for _, word := range words {
			wider.WriteString(text[end:word.At])
			wider.WriteString(someBlanks(r))
			end = word.At + len(word.Text)
			if word.Kind == scan.Quoted {
				end += 2
			}
			at := wider.Len()
			wider.WriteString(text[word.At:end])
			placed = append(placed, scan.Word{Kind: word.Kind, Text: word.Text, At: at})
		}
		wider.WriteString(someBlanks(r) + text[end:])
		wantWords(t, wider.String(), placed...)
	}
}

func TestWhatStandsBehindTheBadByteDoesNotMatter(t *testing.T) {
	r := source(6)
	for range 4000 {
		text := someText(r)
		_, mishap := scan.Words(text)
		if mishap.Code == api.OK || mishap.At == len(text) {
			continue
		}
		each := slices.Collect(scan.Each(text))
		ahead := text[:mishap.At+1]
		for _, behind := range []string{"", "'", "\n", "a", someText(r), someText(r), strings.Repeat("$", api.MaxText-len(ahead))} {
			wantBad(t, ahead+behind, mishap.At, each...)
		}
	}
}
