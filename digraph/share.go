package digraph

import (
	"presage/api"
	"presage/bits"
)

// share is the set of numbers that all nodes of a component have, and the last share to which it gave them.
type share struct {
	numbers *bits.Set
	taker   *share
}

// newShare is one that has nothing to give to itself.
func newShare() *share {
	s := &share{numbers: bits.Of(api.MaxBits)}
	s.taker = s
	return s
}

// givesAnew tells whether a share did not yet give its numbers to this one; from then on it did. There may be far more steps between two components than there are components.
func (s *share) givesAnew(to *share) bool {
	anew := s.taker != to
	s.taker = to
	return anew
}
