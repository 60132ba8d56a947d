package forge

import (
	"presage/api"
	"presage/cycle"
	"presage/gram"
	"presage/look"
	"presage/lr0"
	"presage/pack"
	"presage/reach"
	"presage/resolve"
	"presage/table"
)

// parts are what a system has. Each tells what it has in new memory.
type parts struct {
	closed
	machine
	tables
}

// begin makes the parts, up to the first one that can't be made.
func (p *parts) begin(g api.Grammar) api.Mishap {
	g, err := withAdded(g)
	if err != api.OK {
		return api.Mishap{Code: err}
	}
	if circle := circleOf(g); len(circle) > 0 {
		return api.Mishap{Code: api.ErrCyclic, Cycle: circle}
	}
	if err := p.build(g); err != api.OK {
		return api.Mishap{Code: err}
	}
	// Only a grammar whose automaton is not too big is copied: its rows are not longer than there are states.
	p.keep(g)
	p.lay(g)
	return api.Mishap{}
}

// withAdded is the closed grammar of a plain one, or a closed one all of which is of use.
func withAdded(g api.Grammar) (api.Grammar, api.Errno) {
	if !gram.Closed(g) {
		return reach.Reduce(g)
	}
	useful, err := reach.Useful(g)
	if err != api.OK {
		return api.Grammar{}, err
	}
	for _, isUseful := range useful {
		if !isUseful {
			return api.Grammar{}, api.ErrArg
		}
	}
	return g, api.OK
}

// circleOf are the names of the nonterminals of a circle, if a closed grammar has one.
func circleOf(g api.Grammar) []string {
	circle, _ := cycle.Find(g) // of a closed grammar there is no error
	var names []string
	for _, sym := range circle {
		names = append(names, g.Nons[sym-len(g.Terms)])
	}
	return names
}

// closed is the grammar itself.
type closed struct{ grammar api.Grammar }

func (c *closed) keep(g api.Grammar) { c.grammar = gram.Copy(g) }

func (c *closed) Grammar() api.Grammar { return gram.Copy(c.grammar) }

// machine is what comes of a grammar ahead of any table.
type machine struct {
	automaton api.Automaton
	looks     []api.Look
}

// build makes them, of a closed grammar, if the automaton is not too big.
func (m *machine) build(g api.Grammar) (err api.Errno) {
	if m.automaton, err = lr0.Build(g); err != api.OK {
		return err
	}
	m.looks, err = look.Sets(g)
	return err
}

func (m *machine) Automaton() api.Automaton { return copyOfAutomaton(m.automaton) }

func (m *machine) Looks() []api.Look { return copyOfEach(copyOfLook, m.looks...) }

// tables are the one by which a run goes, dense and packed, and whether the merged one has no clash.
type tables struct {
	settled api.Settled
	packed  api.Packed
	isClear bool
}

// lay makes them. None of these calls has an error of a closed grammar whose automaton is not too big.
func (t *tables) lay(g api.Grammar) {
	t.settled, _ = resolve.Settle(g)
	t.packed, _ = pack.Pack(t.settled.Dense)
	clashes, _ := table.Clashes(g)
	t.isClear = len(clashes) == 0
}

func (t *tables) Settled() api.Settled { return copyOfSettled(t.settled) }

func (t *tables) Packed() api.Packed { return copyOfPacked(t.packed) }

func (t *tables) Clear() bool { return t.isClear }
