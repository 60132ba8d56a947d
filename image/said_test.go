package image_test

import (
	"bytes"
	"encoding/binary"
	"errors"
	"hash/fnv"
	"io"
	"slices"
	"strings"
	"testing"

	"presage/api"
	"presage/forge"
)

// Here the document's words are said a second time: the sum by the library, an image as parts with names, and its grammar as what a reader of the library finds.

// part is a piece of an image.
type part struct{ name, bytes string }

// joined are the bytes of parts.
func joined(parts []part) string {
	var all strings.Builder
	for _, p := range parts {
		all.WriteString(p.bytes)
	}
	return all.String()
}

// saidSum is the sum of bytes, in four bytes.
func saidSum(b string) string {
	h := fnv.New32a()
	io.WriteString(h, b)
	return string(h.Sum(nil))
}

// sealed are bytes with their sum.
func sealed(b string) string { return b + saidSum(b) }

// ones and twos are numbers in one byte, in two.
func ones(numbers ...int) string {
	var all bytes.Buffer
	for _, n := range numbers {
		binary.Write(&all, binary.BigEndian, uint8(n))
	}
	return all.String()
}

func twos(numbers ...int) string {
	var all bytes.Buffer
	for _, n := range numbers {
		binary.Write(&all, binary.BigEndian, uint16(n))
	}
	return all.String()
}

const saidHead = "PRSG\x01"

// saidGrammar are the parts of an image that tell a closed grammar.
func saidGrammar(g api.Grammar) []part {
	terms := ones(len(g.Terms) - 1)
	for _, term := range g.Terms[1:] {
		terms += ones(len(term.Name)) + term.Name + ones(term.Level)
	}
	nons := ones(len(g.Nons) - 1)
	for _, name := range g.Nons[1:] {
		nons += ones(len(name)) + name
	}
	prods := ones(len(g.Prods) - 1)
	for _, p := range g.Prods[1:] {
		prods += ones(p.Left-len(g.Terms), p.Level, len(p.Right)) + ones(p.Right...)
	}
	return []part{
		{"the terminals", terms},
		{"the nonterminals", nons},
		{"the levels", ones(len(g.Levels)) + ones(g.Levels...)},
		{"the start symbol", ones(g.Start - len(g.Terms))},
		{"the productions", prods},
	}
}

// saidTables are the parts behind these.
func saidTables(p api.Packed, clear bool, open []api.Cell) []part {
	defaults, targets, cells, isClear := "", "", "", 0
	for _, prod := range p.Defaults {
		if prod == -1 {
			prod = 0
		}
		defaults += ones(prod)
	}
	for _, to := range p.Targets {
		targets += twos(to + 1)
	}
	for _, c := range open {
		cells += ones(c.State, c.Term)
	}
	if clear {
		isClear = 1
	}
	return slices.Concat(
		[]part{{"how many states", ones(len(p.Defaults) - 1)}, {"the defaults", defaults}},
		saidRows("actions", p.Actions),
		[]part{{"the targets", targets}},
		saidRows("gotos", p.Gotos),
		[]part{{"whether it is clear", ones(isClear)}, {"how many open cells", twos(len(open))}, {"the open cells", cells}},
	)
}

func saidRows(of string, r api.Rows) []part {
	places := ""
	for i := range r.Values {
		places += twos(256+r.Values[i], 1+r.Owners[i])
	}
	return []part{{"the bases of " + of, twos(r.Bases...)}, {"how many places of " + of, twos(len(r.Values))}, {"the places of " + of, places}}
}

// saidParts are the parts of a system's image but for the sum.
func saidParts(s *forge.System) []part {
	return slices.Concat([]part{{"the head", saidHead}}, saidGrammar(s.Grammar()), saidTables(s.Packed(), s.Clear(), s.Settled().Conflicts))
}

func saidImage(s *forge.System) string { return sealed(joined(saidParts(s))) }

// finder finds numbers and texts; ahead of what it can't find it stays at an error.
type finder struct {
	from *bytes.Reader
	err  error
}

func (f *finder) number() int {
	b, err := f.from.ReadByte()
	f.err = errors.Join(f.err, err)
	return int(b)
}

func (f *finder) text() string {
	b := make([]byte, f.number())
	_, err := io.ReadFull(f.from, b)
	f.err = errors.Join(f.err, err)
	return string(b)
}

// found is the closed grammar that bytes behind a head tell.
func (f *finder) found() api.Grammar {
	g := api.Grammar{Terms: []api.Term{{}}, Nons: []string{""}}
	for left := f.number(); left > 0 && f.err == nil; left-- {
		name := f.text()
		g.Terms = append(g.Terms, api.Term{Name: name, Level: f.number()})
	}
	for left := f.number(); left > 0 && f.err == nil; left-- {
		g.Nons = append(g.Nons, f.text())
	}
	for left := f.number(); left > 0 && f.err == nil; left-- {
		g.Levels = append(g.Levels, f.number())
	}
	g.Start = f.number() + len(g.Terms)
	g.Prods = []api.Prod{{Left: len(g.Terms), Right: []int{g.Start}}}
	for left := f.number(); left > 0 && f.err == nil; left-- {
		p := api.Prod{Left: len(g.Terms) + f.number()}
		p.Level = f.number()
		for symbols := f.number(); symbols > 0 && f.err == nil; symbols-- {
			p.Right = append(p.Right, f.number())
		}
		g.Prods = append(g.Prods, p)
	}
	return g
}

// The answers of Decode, and why an image may be none.
type answer struct {
	code api.Errno
	why  string
}

// saidAnswer is what Decode has to answer of any bytes, and the system of which they are the image.
func saidAnswer(b string) (answer, *forge.System) {
	if !strings.HasPrefix(b, saidHead) {
		return answer{api.ErrHead, "another head"}, nil
	}
	if len(b) < 9 || saidSum(b[:len(b)-4]) != b[len(b)-4:] {
		return answer{api.ErrSum, "another sum"}, nil
	}
	f := &finder{from: bytes.NewReader([]byte(b[5 : len(b)-4]))}
	g := f.found()
	if f.err != nil {
		return answer{api.ErrForm, "the bytes end too early"}, nil
	}
	s, m := forge.Of(g)
	switch {
	case m.Code != api.OK:
		return answer{api.ErrForm, "the grammar is no system's"}, nil
	case saidImage(s) != b:
		return answer{api.ErrForm, "another rest"}, nil
	}
	return answer{}, s
}

// The second saying is held against the chapter's example by itself.
func TestSaid(t *testing.T) {
	s := systemOf(t, "s : 'x' ;")
	if got := saidImage(s); got != sealed(example) {
		t.Errorf("the second saying is %x", got)
	}
	if got, d := saidAnswer(sealed(example)); got.code != api.OK || toldAll(d) != toldAll(s) {
		t.Errorf("the second saying answers %v", got)
	}
}
