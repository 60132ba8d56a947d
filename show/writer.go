package show

import (
	"strings"

	"presage/api"
)

// writer lays a text of a grammar that may be, or of its parts, down word by word.
type writer struct {
	strings.Builder
	grammar api.Grammar
	inLine  bool // a word stands in this line already
}

// word lays a word down that may have several pieces.
func (w *writer) word(pieces ...string) {
	if w.inLine {
		w.WriteByte(' ')
	}
	w.inLine = true
	for _, piece := range pieces {
		w.WriteString(piece)
	}
}

// end ends a line of a grammar's text.
func (w *writer) end() {
	w.word(";")
	w.WriteByte('\n')
	w.inLine = false
}

func (w *writer) symbols(syms ...int) {
	for _, sym := range syms {
		w.symbol(sym)
	}
}

func (w *writer) symbol(sym int) {
	switch {
	case sym == 0:
		w.word("$end")
	case sym < len(w.grammar.Terms):
		w.word("'", w.grammar.Terms[sym].Name, "'")
	case w.isAdded(sym):
		w.word("$start")
	default:
		w.word(w.nonName(sym))
	}
}

// arrow lays down what a production, and its items, begin with.
func (w *writer) arrow(left int) {
	w.symbol(left)
	w.word("->")
}

func (w *writer) headers() {
	if terms := w.terms(); len(terms) > 0 {
		w.header("%token", terms...)
	}
	for i, side := range w.grammar.Levels {
		w.header(orderOf(side), w.termsOf(i+1)...)
	}
	w.header("%start", w.grammar.Start)
}

func (w *writer) header(order string, syms ...int) {
	w.word(order)
	w.symbols(syms...)
	w.end()
}

func (w *writer) rules() {
	for _, p := range w.grammar.Prods {
		if !w.isAdded(p.Left) {
			w.rule(p)
		}
	}
}

func (w *writer) rule(p api.Prod) {
	w.symbol(p.Left)
	w.word(":")
	w.symbols(p.Right...)
	if p.Level != w.levelOf(p.Right) {
		w.grade(p.Level)
	}
	w.end()
}

// grade lays down the level of a production that would have another one by its row.
func (w *writer) grade(level int) {
	if level == 0 {
		w.word("%none")
		return
	}
	w.word("%prec")
	w.symbol(w.termsOf(level)[0])
}

// terms are all terminals but the end marker.
func (w *writer) terms() []int {
	var terms []int
	for i := 1; i < len(w.grammar.Terms); i++ {
		terms = append(terms, i)
	}
	return terms
}

// termsOf are the terminals of a level: of a grammar that may be, each level has one.
func (w *writer) termsOf(level int) []int {
	var terms []int
	for _, term := range w.terms() {
		if w.grammar.Terms[term].Level == level {
			terms = append(terms, term)
		}
	}
	return terms
}

// levelOf is the level that a production has by its row alone.
func (w *writer) levelOf(row []int) int {
	level := 0
	for _, sym := range row {
		if sym < len(w.grammar.Terms) {
			level = w.grammar.Terms[sym].Level
		}
	}
	return level
}

// isAdded tells whether sym is the added nonterminal: no other one has an empty name.
func (w *writer) isAdded(sym int) bool { return w.nonName(sym) == "" }

func (w *writer) nonName(sym int) string { return w.grammar.Nons[sym-len(w.grammar.Terms)] }

func orderOf(side int) string {
	switch side {
	case api.Left:
		return "%left"
	case api.Right:
		return "%right"
	}
	return "%nonassoc"
}
