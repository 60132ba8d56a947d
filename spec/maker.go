package spec

import (
	"presage/api"
	"presage/gram"
	"presage/scan"
)

// maker makes the grammar of an outline.
type maker struct {
	builder *gram.Builder
	nons    map[string]int // by name: the handles; none is 0
}

// grammar gives up, if there are more symbols or productions than may be.
func (o outline) grammar() api.Grammar {
	m := maker{builder: gram.New(), nons: map[string]int{}}
	// The nonterminals come first, since only with all of them at hand a Name in a row can be told; the builder puts them into their order by itself.
	for _, r := range o.rows {
		m.nons[r.left] = fits(m.builder.Non(r.left))
	}
	for _, h := range o.headers {
		m.addHeader(h)
	}
	for _, r := range o.rows {
		m.addRow(r, o.levels[r.prec])
	}
	if o.start != "" {
		m.builder.Start(m.nons[o.start])
	}
	g, _ := m.builder.Grammar()
	return g
}

func (m maker) addHeader(h header) {
	var terms []int
	for _, text := range h.terms {
		terms = append(terms, m.term(text))
	}
	if h.side != 0 {
		m.builder.Level(h.side, terms...)
	}
}

// addRow adds a production; where the row is graded, it has that level.
func (m maker) addRow(r row, level int) {
	var right []int
	for _, word := range r.right {
		right = append(right, m.symbol(word))
	}
	if r.prec != "" {
		m.term(r.prec)
	}
	prod := fits(m.builder.Rule(m.nons[r.left], right...))
	if r.graded {
		m.builder.Grade(level, prod)
	}
}

// symbol is the handle of what stands in a row.
func (m maker) symbol(word scan.Word) int {
	if non := m.nons[word.Text]; non != 0 && word.Kind == scan.Name {
		return non
	}
	return m.term(word.Text)
}

func (m maker) term(text string) int { return fits(m.builder.Term(text)) }

// fits is what the builder answered. Of what an outline says it refuses nothing but what is too much.
func fits(handle int, err api.Errno) int {
	if err != api.OK {
		giveUp(err, 0)
	}
	return handle
}
