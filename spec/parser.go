package spec

import (
	"slices"

	"presage/api"
	"presage/scan"
)

// outline is what the words of a text say while it is open which Names in its rows are nonterminals: their rules may stand behind.
type outline struct {
	headers []header
	levels  map[string]int // by text, of the terminals that came in headers; 0: none
	start   string         // empty: without %start
	rows    []row
}

// header has the terminals of a %token, or of a level.
type header struct {
	side  int // 0: of %token
	terms []string
}

// row is a row of a rule.
type row struct {
	left   string
	right  []scan.Word
	graded bool   // there is a %prec or a %none
	prec   string // the text behind %prec
}

// parser goes through the words of a text. Where a word can't stand there, or there is none, it gives up.
type parser struct {
	outline
	level int         // the last one that was made
	words []scan.Word // those ahead
	end   int         // the place of what follows the last one: a bad place, or the text's end
}

// outlineOf gives up at the bad place of a text that is no grammar's.
func outlineOf(text string) outline {
	_, mishap := scan.Words(text)
	p := parser{words: slices.Collect(scan.Each(text)), end: len(text)}
	if mishap.Code != api.OK {
		p.end = mishap.At
	}
	p.readHeaders()
	p.readRules()
	if mishap.Code != api.OK || !p.hasStart() {
		giveUp(api.ErrSyntax, p.end)
	}
	return p.outline
}

// hasStart tells whether what %start names has a rule.
func (p *parser) hasStart() bool {
	isStart := func(r row) bool { return r.left == p.start }
	return p.start == "" || slices.ContainsFunc(p.rows, isStart)
}

func (p *parser) readHeaders() {
	p.levels = map[string]int{}
	for p.sees(isOrder) {
		p.readHeader()
	}
}

func (p *parser) readHeader() {
	switch word := p.take(isOrder); word.Text {
	case "%token":
		p.readTerms(0)
	case "%left":
		p.readLevel(api.Left)
	case "%right":
		p.readLevel(api.Right)
	case "%nonassoc":
		p.readLevel(api.Neither)
	case "%start":
		p.readStart(word.At)
	default:
		giveUp(api.ErrSyntax, word.At)
	}
	p.take(sign(";"))
}

func (p *parser) readLevel(side int) {
	p.level++
	p.readTerms(side)
}

// readTerms reads the terminals of a header: of a level, if there is a side.
func (p *parser) readTerms(side int) {
	h := header{side: side}
	for len(h.terms) == 0 || p.sees(isTerm) {
		term := p.take(isTerm)
		level, came := p.levels[term.Text]
		if level != 0 || came && side == 0 {
			giveUp(api.ErrSyntax, term.At)
		}
		if side != 0 {
			level = p.level
		}
		p.levels[term.Text] = level
		h.terms = append(h.terms, term.Text)
	}
	p.headers = append(p.headers, h)
}

// readStart reads what stands behind the %start at that place.
func (p *parser) readStart(at int) {
	if p.start != "" {
		giveUp(api.ErrSyntax, at)
	}
	p.start = p.take(isName).Text
}

func (p *parser) readRules() {
	p.readRule()
	for len(p.words) > 0 {
		p.readRule()
	}
}

func (p *parser) readRule() {
	left := p.take(isName).Text
	p.take(sign(":"))
	p.readRow(left)
	for p.sees(sign("|")) {
		p.take(sign("|"))
		p.readRow(left)
	}
	p.take(sign(";"))
}

func (p *parser) readRow(left string) {
	r := row{left: left}
	for p.sees(isTerm) {
		r.right = append(r.right, p.take(isTerm))
	}
	switch {
	case p.sees(order("%prec")):
		p.take(isOrder)
		r.graded, r.prec = true, p.take(isTerm).Text
	case p.sees(order("%none")):
		p.take(isOrder)
		r.graded = true
	}
	p.rows = append(p.rows, r)
}

// sees tells whether there is a next word, and it is such a one.
func (p *parser) sees(may func(scan.Word) bool) bool { return len(p.words) > 0 && may(p.words[0]) }

// take goes behind the next word, which must be such a one.
func (p *parser) take(may func(scan.Word) bool) scan.Word {
	if len(p.words) == 0 {
		giveUp(api.ErrSyntax, p.end)
	}
	next := p.words[0]
	if !may(next) {
		giveUp(api.ErrSyntax, next.At)
	}
	p.words = p.words[1:]
	return next
}

func isName(w scan.Word) bool { return w.Kind == scan.Name }

// isTerm tells whether a word is a T, as the chapter calls it: in a row it may be a nonterminal.
func isTerm(w scan.Word) bool { return w.Kind == scan.Name || w.Kind == scan.Quoted }

func isOrder(w scan.Word) bool { return w.Kind == scan.Order }

// order and sign ask for the kind too: between quotes their texts may stand as well.
func order(text string) func(scan.Word) bool {
	return func(w scan.Word) bool { return w.Kind == scan.Order && w.Text == text }
}

func sign(text string) func(scan.Word) bool {
	return func(w scan.Word) bool { return w.Kind == scan.Sign && w.Text == text }
}
