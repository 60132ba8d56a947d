// Package bits is layer 1: see shared/doc/01-bits.md.
package bits

import (
	"iter"
	mathbits "math/bits"

	"presage/api"
)

const (
	wordBits  = 64
	wordCount = (api.MaxBits + wordBits - 1) / wordBits
)

// Set has some of the numbers from 0 on, below its size.
//
// Its words are an array, not a slice, so that a copied value shares no memory with the one it was copied from. No bit from the size on is ever set: Equal, Count and Meets lean on that.
type Set struct {
	size  int
	words [wordCount]uint64
}

// Of is a set of that size, with these members.
func Of(size int, members ...int) *Set {
	s := &Set{size: min(max(size, 0), api.MaxBits)}
	s.Add(members...)
	return s
}

// Size is its size.
func (s *Set) Size() int {
	if s == nil {
		return 0
	}
	return s.size
}

// Count is how many members it has.
func (s *Set) Count() int {
	count := 0
	for _, word := range s.value().words {
		count += mathbits.OnesCount64(word)
	}
	return count
}

// Has tells whether it has a member.
func (s *Set) Has(n int) bool {
	return s.holds(n) && s.words[n/wordBits]&bit(n) != 0
}

// Add adds members, and tells how many were new.
func (s *Set) Add(members ...int) int {
	added := 0
	for _, n := range members {
		if s.holds(n) && !s.Has(n) {
			s.words[n/wordBits] |= bit(n)
			added++
		}
	}
	return added
}

// Drop takes members out, and tells how many were there.
func (s *Set) Drop(members ...int) int {
	dropped := 0
	for _, n := range members {
		if s.Has(n) {
			s.words[n/wordBits] &^= bit(n)
			dropped++
		}
	}
	return dropped
}

// Union adds all members of others, as far as they are below its size, and tells how many were new.
func (s *Set) Union(others ...*Set) int {
	if s == nil {
		return 0
	}
	before := s.Count()
	for _, o := range others {
		for i, word := range o.value().words {
			s.words[i] |= word & below(s.size, i)
		}
	}
	return s.Count() - before
}

// Meets tells whether all of these sets have a member in common with it.
func (s *Set) Meets(others ...*Set) bool {
	common := s.value()
	for _, o := range others {
		for i, word := range o.value().words {
			common.words[i] &= word
		}
	}
	return common.Count() > 0
}

// Equal tells whether two sets have the same size and members.
func (s *Set) Equal(o *Set) bool { return s.value() == o.value() }

// Copy is another set of the same.
func (s *Set) Copy() *Set {
	c := s.value()
	return &c
}

// Members are its members, rising.
func (s *Set) Members() []int {
	members := make([]int, 0, s.Count())
	for n := range s.All() {
		members = append(members, n)
	}
	return members
}

// All goes over the members, rising.
func (s *Set) All() iter.Seq[int] {
	// A copy, since the range must not see what becomes of the set later.
	then := s.value()
	return func(yield func(int) bool) {
		for i, word := range then.words {
			for rest := word; rest != 0; rest &= rest - 1 {
				if !yield(i*wordBits + mathbits.TrailingZeros64(rest)) {
					return
				}
			}
		}
	}
}

// value is what a set consists of; it lets the nil set be asked like an empty one.
func (s *Set) value() Set {
	if s == nil {
		return Set{}
	}
	return *s
}

// holds tells whether n may be a member; for the nil set it is always false, so that its words are never touched.
func (s *Set) holds(n int) bool { return n >= 0 && n < s.Size() }

// bit is the bit of n within its word.
func bit(n int) uint64 { return 1 << (n % wordBits) }

// below has the bits of a word that stand for numbers below the size.
func below(size, word int) uint64 {
	room := size - word*wordBits
	if room <= 0 {
		return 0
	}
	if room >= wordBits {
		return ^uint64(0)
	}
	return 1<<room - 1
}
