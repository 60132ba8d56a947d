package image

import "presage/api"

// writer lays down the parts of an image one behind the other. All of a system's numbers fit into the bytes that they have.
type writer struct{ laid []byte }

// ones lays down numbers in one byte each; twos in two.
func (w *writer) ones(numbers ...int) {
	for _, n := range numbers {
		w.laid = append(w.laid, byte(n))
	}
}
func (w *writer) twos(numbers ...int) {
	for _, n := range numbers {
		w.ones(n>>8, n)
	}
}

// list lays down numbers behind how many they are; text the bytes of a text likewise.
func (w *writer) list(numbers ...int) {
	w.ones(len(numbers))
	w.ones(numbers...)
}
func (w *writer) text(text string) {
	w.ones(len(text))
	w.laid = append(w.laid, text...)
}

func (w *writer) head() {
	for _, b := range head {
		w.laid = append(w.laid, b)
	}
}

func (w *writer) sum() { w.laid = append(w.laid, sumOf(string(w.laid))...) }

// grammar lays down a closed grammar but for what is added to each.
func (w *writer) grammar(g api.Grammar) {
	terms, nons, prods := g.Terms[1:], g.Nons[1:], g.Prods[1:]
	w.ones(len(terms))
	for _, term := range terms {
		w.text(term.Name)
		w.ones(term.Level)
	}
	w.ones(len(nons))
	for _, name := range nons {
		w.text(name)
	}
	w.list(g.Levels...)
	w.ones(g.Start-len(g.Terms), len(prods))
	for _, p := range prods {
		w.ones(p.Left-len(g.Terms), p.Level)
		w.list(p.Right...)
	}
}

func (w *writer) packed(p api.Packed) {
	w.ones(len(p.Defaults) - 1)
	for _, prod := range p.Defaults {
		w.ones(max(prod, 0)) // -1, none, is 0 here: no default is the added production
	}
	w.rows(p.Actions)
	for _, to := range p.Targets {
		w.twos(1 + to)
	}
	w.rows(p.Gotos)
}

func (w *writer) rows(r api.Rows) {
	w.twos(r.Bases...)
	w.twos(len(r.Values))
	for i, value := range r.Values {
		w.twos(256+value, 1+r.Owners[i])
	}
}

// cells lays down whether no cell had two actions, and which ones are open.
func (w *writer) cells(isClear bool, open []api.Cell) {
	if isClear {
		w.ones(1)
	} else {
		w.ones(0)
	}
	w.twos(len(open))
	for _, c := range open {
		w.ones(c.State, c.Term)
	}
}
