package scan

import (
	"strings"

	"presage/api"
)

// The orders. None of them begins another one: reader.order leans on that.
var orders = [...]string{"%token", "%left", "%right", "%nonassoc", "%start", "%prec", "%none"}

// reader goes through a text of at most MaxText bytes. Where it is bad, it has come to the text's bad place; it goes no further.
type reader struct {
	text string
	at   int // how far it has come
	bad  bool
}

// words hands out the words ahead, one by one.
func (r *reader) words(yield func(Word) bool) {
	for r.skipBlanks(); r.at < len(r.text); r.skipBlanks() {
		word := r.word()
		if r.bad || !yield(word) {
			return
		}
	}
}

func (r *reader) skipBlanks() {
again:
	r.at += run(r.rest(), isBlank)
	if r.sees(isHash) {
		r.at += run(r.rest(), isInLine)
		goto again
	}
}

// word is the one that begins here; if the reader is bad behind it, there is none.
func (r *reader) word() Word {
	word := Word{At: r.at}
	switch c := r.text[r.at]; {
	case isNameStart(c):
		word.Kind, word.Text = Name, r.name()
	case isQuote(c):
		word.Kind, word.Text = Quoted, r.quoted()
	case c == '%':
		word.Kind, word.Text = Order, r.order()
	case isSign(c):
		word.Kind, word.Text = Sign, r.take(1)
	default:
		r.bad = true
	}
	return word
}

func (r *reader) name() string {
	name := r.take(min(run(r.rest(), isNameByte), api.MaxName))
	r.bad = r.sees(isNameByte)
	return name
}

func (r *reader) quoted() string {
	r.at++
	inside := r.take(min(run(r.rest(), isTermByte), api.MaxName))
	if inside == "" || !r.sees(isQuote) {
		r.bad = true
		return ""
	}
	r.at++
	return inside
}

func (r *reader) order() string {
	nearest, length := "", 0
	for _, order := range orders {
		if n := common(order, r.rest()); n > length {
			nearest, length = order, n
		}
	}
	r.at += length
	r.bad = length < len(nearest) || r.sees(isLetter)
	return nearest
}

// rest is what stands ahead.
func (r *reader) rest() string { return r.text[r.at:] }

// sees tells whether there is a next byte, and it is such a one.
func (r *reader) sees(may func(byte) bool) bool { return r.at < len(r.text) && may(r.text[r.at]) }

// take goes behind the next n bytes, and tells them: a copy, since a word is not to hold on to the whole text.
func (r *reader) take(n int) string {
	taken := r.rest()[:n]
	r.at += n
	return strings.Clone(taken)
}

// run is with how many such bytes a text begins.
func run(s string, may func(byte) bool) int {
	n := 0
	for n < len(s) && may(s[n]) {
		n++
	}
	return n
}

// common is with how many bytes both texts begin alike.
func common(a, b string) int {
	n := 0
	for n < len(a) && n < len(b) && a[n] == b[n] {
		n++
	}
	return n
}

func isBlank(c byte) bool { return c == ' ' || c == '\t' || c == '\n' || c == '\r' }

func isHash(c byte) bool { return c == '#' }

func isInLine(c byte) bool { return c != '\n' }

func isQuote(c byte) bool { return c == '\'' }

func isSign(c byte) bool { return c == ':' || c == '|' || c == ';' }

func isLetter(c byte) bool { return c >= 'A' && c <= 'Z' || c >= 'a' && c <= 'z' }

func isNameStart(c byte) bool { return isLetter(c) || c == '_' }

func isNameByte(c byte) bool { return isNameStart(c) || c >= '0' && c <= '9' }

func isTermByte(c byte) bool { return c >= ' ' && c <= '~' && !isQuote(c) }
