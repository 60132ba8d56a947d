package bits_test

import (
	"math"
	"slices"
	"testing"

	"presage/api"
	"presage/bits"
)

// edgeSizes are the sizes at which a set's words begin, end or are cut.
var edgeSizes = []int{0, 1, 2, 63, 64, 65, 127, 128, 129, 1000, 1023, 1024}

// wrongNumbers are members of no set, whatever its size.
var wrongNumbers = []int{math.MinInt, -1025, -1024, -64, -63, -1, api.MaxBits, api.MaxBits + 1, 1 << 32, math.MaxInt}

func upTo(size int) []int {
	numbers := make([]int, size)
	for i := range numbers {
		numbers[i] = i
	}
	return numbers
}

func wantMembers(t *testing.T, what string, s *bits.Set, want ...int) {
	t.Helper()
	if got := s.Members(); !slices.Equal(got, want) {
		t.Errorf("%s: Members() = %v, want %v", what, got, want)
	}
	if got := slices.Collect(s.All()); !slices.Equal(got, want) {
		t.Errorf("%s: All() goes over %v, want %v", what, got, want)
	}
	if got := s.Count(); got != len(want) {
		t.Errorf("%s: Count() = %d, want %d", what, got, len(want))
	}
	for n := -1; n <= api.MaxBits; n++ {
		if got := s.Has(n); got != slices.Contains(want, n) {
			t.Errorf("%s: Has(%d) = %v", what, n, got)
		}
	}
}

func wantNumber(t *testing.T, what string, got, want int) {
	t.Helper()
	if got != want {
		t.Errorf("%s = %d, want %d", what, got, want)
	}
}

func wantBool(t *testing.T, what string, got, want bool) {
	t.Helper()
	if got != want {
		t.Errorf("%s = %v, want %v", what, got, want)
	}
}

// P1.1

func TestOfTakesTheSizeWithinItsBounds(t *testing.T) {
	for _, size := range edgeSizes {
		wantNumber(t, "Size()", bits.Of(size).Size(), size)
	}
	for _, size := range []int{-1, -3, -64, -1024, math.MinInt} {
		s := bits.Of(size, 0, 1, -1)
		wantNumber(t, "Size() of a size below 0", s.Size(), 0)
		wantMembers(t, "a size below 0", s)
	}
	for _, size := range []int{api.MaxBits + 1, 5000, math.MaxInt} {
		s := bits.Of(size, 1023, 1024, 0)
		wantNumber(t, "Size() of a size above MaxBits", s.Size(), api.MaxBits)
		wantMembers(t, "a size above MaxBits", s, 0, 1023)
	}
}

func TestOfTakesTheMembersBelowTheSize(t *testing.T) {
	wantMembers(t, "Of(4, 1, 3, 3, 4, -1)", bits.Of(4, 1, 3, 3, 4, -1), 1, 3)
	wantMembers(t, "Of(9)", bits.Of(9))
	wantMembers(t, "Of(0, 0)", bits.Of(0, 0))
	for _, size := range edgeSizes {
		wantMembers(t, "all numbers", bits.Of(size, upTo(api.MaxBits)...), upTo(size)...)
		wantMembers(t, "wrong numbers", bits.Of(size, wrongNumbers...))
	}
}

func TestHasOfWrongNumbers(t *testing.T) {
	s := bits.Of(api.MaxBits, upTo(api.MaxBits)...)
	for _, n := range wrongNumbers {
		wantBool(t, "Has of a wrong number", s.Has(n), false)
	}
}

func TestCopyIsAnotherSet(t *testing.T) {
	s := bits.Of(130, 0, 64, 129)
	c := s.Copy()
	wantNumber(t, "Size() of the copy", c.Size(), 130)
	wantMembers(t, "the copy", c, 0, 64, 129)
	c.Add(1)
	c.Drop(64)
	wantMembers(t, "the set, when its copy is turned", s, 0, 64, 129)
	s.Union(bits.Of(130, 7))
	s.Drop(129)
	wantMembers(t, "the copy, when its set is turned", c, 0, 1, 129)
	wantMembers(t, "the set itself", s, 0, 7, 64)
}

func TestSetsThatNobodyMade(t *testing.T) {
	made := bits.Of(4, 0, 1)
	for what, s := range map[string]*bits.Set{"the nil set": nil, "a zero Set": {}} {
		wantNumber(t, what+": Size()", s.Size(), 0)
		wantNumber(t, what+": Add", s.Add(0, 1, 63, -1), 0)
		wantNumber(t, what+": Drop", s.Drop(0, -1), 0)
		wantNumber(t, what+": Union", s.Union(made, nil, s), 0)
		wantNumber(t, what+": Union with no others", s.Union(), 0)
		wantMembers(t, what, s)
		wantBool(t, what+": Meets()", s.Meets(), false)
		wantBool(t, what+": Meets a made one", s.Meets(made), false)
		wantBool(t, what+": is met by a made one", made.Meets(s), false)
		wantNumber(t, what+": in a Union", made.Union(s), 0)
		wantBool(t, what+": Equal to a made one of size 0", s.Equal(bits.Of(0)), true)
		wantBool(t, what+": a made one of size 0 is Equal to it", bits.Of(0).Equal(s), true)
		wantBool(t, what+": Equal to nil", s.Equal(nil), true)
		wantBool(t, what+": Equal to one of size 1", s.Equal(bits.Of(1)), false)
		wantBool(t, what+": one of size 1 is Equal to it", bits.Of(1).Equal(s), false)
		if s.All() == nil {
			t.Errorf("%s: All() is nil", what)
		}
		c := s.Copy()
		if c == nil {
			t.Fatalf("%s: Copy() is nil", what)
		}
		wantNumber(t, what+": Size() of its copy", c.Size(), 0)
		wantNumber(t, what+": Add to its copy", c.Add(0), 0)
	}
}

// P1.2

func TestAddTellsHowManyWereNew(t *testing.T) {
	s := bits.Of(4, 1, 3)
	wantNumber(t, "Add(0, 0, 3, 9)", s.Add(0, 0, 3, 9), 1)
	wantMembers(t, "Add(0, 0, 3, 9)", s, 0, 1, 3)
	wantNumber(t, "Add()", s.Add(), 0)
	wantNumber(t, "Add(-1, 4)", s.Add(-1, 4), 0)
	wantNumber(t, "Add(0, 1, 3)", s.Add(0, 1, 3), 0)
	wantNumber(t, "Add of wrong numbers", s.Add(wrongNumbers...), 0)
	wantMembers(t, "Adds of nothing new", s, 0, 1, 3)
	for _, size := range edgeSizes {
		s := bits.Of(size)
		wantNumber(t, "Add of all numbers", s.Add(upTo(api.MaxBits)...), size)
		wantNumber(t, "Add of all numbers again", s.Add(upTo(api.MaxBits)...), 0)
		wantMembers(t, "Add of all numbers", s, upTo(size)...)
	}
}

func TestDropTellsHowManyWereThere(t *testing.T) {
	s := bits.Of(4, 0, 1, 3)
	wantNumber(t, "Drop(3, 3, 2)", s.Drop(3, 3, 2), 1)
	wantMembers(t, "Drop(3, 3, 2)", s, 0, 1)
	wantNumber(t, "Drop()", s.Drop(), 0)
	wantNumber(t, "Drop(-1, 4)", s.Drop(-1, 4), 0)
	wantNumber(t, "Drop of wrong numbers", s.Drop(wrongNumbers...), 0)
	wantMembers(t, "Drops of none", s, 0, 1)
	wantNumber(t, "Drop(0, 1)", s.Drop(0, 1), 2)
	wantMembers(t, "Drop(0, 1)", s)
	wantNumber(t, "Size() of a set without members", s.Size(), 4)
	for _, size := range edgeSizes {
		s := bits.Of(size, upTo(size)...)
		wantNumber(t, "Drop of all numbers", s.Drop(upTo(api.MaxBits)...), size)
		wantMembers(t, "Drop of all numbers", s)
	}
}

func TestUnionTellsHowManyWereNew(t *testing.T) {
	s := bits.Of(2)
	wantNumber(t, "Union", s.Union(bits.Of(4, 0, 1), nil, bits.Of(9, 1, 5)), 2)
	wantMembers(t, "Union", s, 0, 1)
	wantNumber(t, "Union()", s.Union(), 0)
	wantNumber(t, "Union(nil)", s.Union(nil), 0)
	wantMembers(t, "Unions of nothing", s, 0, 1)

	wide := bits.Of(200, 3)
	wantNumber(t, "Union with smaller sets", wide.Union(bits.Of(4, 3), bits.Of(66, 65), bits.Of(65, 64)), 2)
	wantMembers(t, "Union with smaller sets", wide, 3, 64, 65)
}

func TestUnionKeepsBelowTheSize(t *testing.T) {
	full := bits.Of(api.MaxBits, upTo(api.MaxBits)...)
	for _, size := range edgeSizes {
		s := bits.Of(size)
		wantNumber(t, "Union with all numbers", s.Union(full), size)
		wantNumber(t, "Size()", s.Size(), size)
		wantMembers(t, "Union with all numbers", s, upTo(size)...)
		wantBool(t, "Equal to one that was made so", s.Equal(bits.Of(size, upTo(size)...)), true)
	}
}

func TestUnionWithItself(t *testing.T) {
	s := bits.Of(70, 2, 69)
	wantNumber(t, "Union with itself", s.Union(s), 0)
	wantMembers(t, "Union with itself", s, 2, 69)
	wantNumber(t, "Union with itself and others", s.Union(bits.Of(70, 3), s, bits.Of(70, 3, 4), s), 2)
	wantMembers(t, "Union with itself and others", s, 2, 3, 4, 69)
}

// P1.3

func TestMeetsNeedsOneNumberOfAll(t *testing.T) {
	tests := []struct {
		what   string
		s      *bits.Set
		others []*bits.Set
		want   bool
	}{
		{"one in all", bits.Of(4, 1, 2), []*bits.Set{bits.Of(9, 2, 3), bits.Of(3, 2)}, true},
		{"one in each, none in all", bits.Of(4, 1, 2), []*bits.Set{bits.Of(9, 1), bits.Of(9, 2)}, false},
		{"others that meet each other alone", bits.Of(4, 1), []*bits.Set{bits.Of(4, 2), bits.Of(4, 2)}, false},
		{"no others, no member", bits.Of(4), nil, false},
		{"no others, a member", bits.Of(4, 2), nil, true},
		{"no others, the last member", bits.Of(1024, 1023), nil, true},
		{"a nil one", bits.Of(4, 2), []*bits.Set{nil}, false},
		{"a nil one among others", bits.Of(4, 2), []*bits.Set{bits.Of(4, 2), nil, bits.Of(4, 2)}, false},
		{"one of size 0", bits.Of(4, 0), []*bits.Set{bits.Of(0)}, false},
		{"the last number", bits.Of(1024, 5, 1023), []*bits.Set{bits.Of(1024, 6, 1023)}, true},
		{"the same bit of another word", bits.Of(129, 0, 128), []*bits.Set{bits.Of(65, 64)}, false},
	}
	for _, c := range tests {
		wantBool(t, "Meets: "+c.what, c.s.Meets(c.others...), c.want)
	}
	s := bits.Of(4, 1)
	wantBool(t, "Meets itself", s.Meets(s, s), true)
	s.Meets(bits.Of(4, 2))
	wantMembers(t, "Meets changes nothing", s, 1)
	wantBool(t, "a set without members Meets itself", bits.Of(4).Meets(bits.Of(4)), false)
}

func TestEqualAsksSizeAndMembers(t *testing.T) {
	wantBool(t, "unlike sizes", bits.Of(3, 1).Equal(bits.Of(4, 1)), false)
	wantBool(t, "unlike sizes without members", bits.Of(3).Equal(bits.Of(4)), false)
	wantBool(t, "unlike members", bits.Of(3, 1).Equal(bits.Of(3, 2)), false)
	wantBool(t, "a member more", bits.Of(3, 1, 2).Equal(bits.Of(3, 1)), false)
	wantBool(t, "a member less", bits.Of(3, 1).Equal(bits.Of(3, 1, 2)), false)
	wantBool(t, "unlike in the last word", bits.Of(1024, 1).Equal(bits.Of(1024, 1, 1023)), false)
	wantBool(t, "members in another order", bits.Of(130, 64, 129).Equal(bits.Of(130, 129, 64, 64)), true)
	wantBool(t, "sizes that count as the same", bits.Of(5000, 1).Equal(bits.Of(1024, 1)), true)
	wantBool(t, "size 0 and nil", bits.Of(0).Equal(nil), true)
	var none *bits.Set
	wantBool(t, "nil and nil", none.Equal(nil), true)
	s := bits.Of(3, 1)
	wantBool(t, "a set and itself", s.Equal(s), true)
	s.Add(2)
	s.Drop(2)
	wantBool(t, "a set that was turned there and back", s.Equal(bits.Of(3, 1)), true)
}

func TestMembersAreNewMemory(t *testing.T) {
	s := bits.Of(100, 1, 99)
	first, second := s.Members(), s.Members()
	first[0] = 50
	_ = append(first[:1], 60)
	if !slices.Equal(second, []int{1, 99}) {
		t.Error("two answers of Members share memory", second)
	}
	wantMembers(t, "a set whose Members were written into", s, 1, 99)
}

func TestAllGoesOverWhatThereWas(t *testing.T) {
	s := bits.Of(200, 0, 63, 64, 199)
	all := s.All()
	s.Add(1, 100)
	s.Drop(0, 199)
	s.Union(bits.Of(200, 70))
	for range 2 {
		if got := slices.Collect(all); !slices.Equal(got, []int{0, 63, 64, 199}) {
			t.Error("a range over what there was goes over", got)
		}
	}
	wantMembers(t, "the set meanwhile", s, 1, 63, 64, 70, 100)
}

func TestAllWhileTheSetIsTurned(t *testing.T) {
	s := bits.Of(8, 1, 2, 3)
	var got []int
	for n := range s.All() {
		got = append(got, n)
		s.Drop(n + 1)
		s.Add(n + 3)
	}
	if !slices.Equal(got, []int{1, 2, 3}) {
		t.Error("a range goes over what is turned within it:", got)
	}
	wantMembers(t, "a set that was turned within a range", s, 1, 5, 6)
}

func TestAllIsLeftEarlyAndGoneOverAgain(t *testing.T) {
	all := bits.Of(200, 5, 70, 199).All()
	for stop := range 3 {
		var got []int
		for n := range all {
			got = append(got, n)
			if len(got) > stop {
				break
			}
		}
		if want := []int{5, 70, 199}[:stop+1]; !slices.Equal(got, want) {
			t.Error("left early:", got, "want", want)
		}
	}
	var pairs []int
	for a := range all {
		for b := range all {
			pairs = append(pairs, a, b)
		}
	}
	want := []int{5, 5, 5, 70, 5, 199, 70, 5, 70, 70, 70, 199, 199, 5, 199, 70, 199, 199}
	if !slices.Equal(pairs, want) {
		t.Error("gone over within itself:", pairs)
	}
}

func TestArgumentsAreNeitherChangedNorKept(t *testing.T) {
	room := []int{3, 1, 3, 9, 7, 7}
	members := room[:4]
	s := bits.Of(8, members...)
	s.Add(members...)
	s.Drop(members...)
	s.Add(members...)
	if !slices.Equal(room, []int{3, 1, 3, 9, 7, 7}) {
		t.Error("a list that was handed in has changed:", room)
	}
	room[0] = 5
	wantMembers(t, "a set, when the list that it was made of is turned", s, 1, 3)

	first, second := bits.Of(8, 4), bits.Of(70, 69)
	others := []*bits.Set{first, second, nil}
	s.Union(others...)
	s.Meets(others...)
	if others[0] != first || others[1] != second || others[2] != nil {
		t.Error("a list of sets that was handed in has changed")
	}
	wantMembers(t, "the first of others", first, 4)
	wantMembers(t, "the second of others", second, 69)
	first.Add(5)
	wantMembers(t, "a set, when one of its others is turned", s, 1, 3, 4)
}

// P1.4

// draws answers a function that draws numbers below a bound, always the same ones.
func draws() func(bound int) int {
	state := uint64(1)
	return func(bound int) int {
		state = state*6364136223846793005 + 1442695040888963407
		return int(state>>33) % bound
	}
}

func drawnSet(draw func(int) int) *bits.Set {
	size := edgeSizes[draw(len(edgeSizes))]
	s := bits.Of(size)
	for range draw(40) {
		s.Add(draw(size + 1))
	}
	return s
}

func TestUnionTwiceAddsNothing(t *testing.T) {
	draw := draws()
	for range 500 {
		s, o, p := drawnSet(draw), drawnSet(draw), drawnSet(draw)
		s.Union(o, p)
		once := s.Copy()
		wantNumber(t, "a second Union", s.Union(o, p), 0)
		wantNumber(t, "a second Union in two", s.Union(p)+s.Union(o), 0)
		wantBool(t, "the same behind a second Union", s.Equal(once), true)
	}
}

func TestUnionsInAnyOrder(t *testing.T) {
	draw := draws()
	for range 500 {
		s, o, p := drawnSet(draw), drawnSet(draw), drawnSet(draw)
		there, back, together := s.Copy(), s.Copy(), s.Copy()
		n := there.Union(o) + there.Union(p)
		wantNumber(t, "Unions in the other order", back.Union(p)+back.Union(o), n)
		wantNumber(t, "one Union of both", together.Union(p, o), n)
		wantBool(t, "both orders alike", there.Equal(back), true)
		wantBool(t, "one after the other and together alike", there.Equal(together), true)
	}
}

func TestMeetsJustIfDroppingTakesSome(t *testing.T) {
	draw := draws()
	seen := [2]int{}
	for range 500 {
		s, o := drawnSet(draw), drawnSet(draw)
		meets := s.Meets(o)
		wantBool(t, "Meets the other way", o.Meets(s), meets)
		taken := s.Drop(o.Members()...)
		wantBool(t, "Meets, against what Drop takes", meets, taken > 0)
		wantBool(t, "Meets behind the Drop", s.Meets(o), false)
		seen[min(taken, 1)]++
	}
	if seen[0] == 0 || seen[1] == 0 {
		t.Error("the drawn sets show one side alone", seen)
	}
}

// TestAgainstPlainLists holds long runs of turns against lists that are searched one by one.
func TestAgainstPlainLists(t *testing.T) {
	draw := draws()
	for _, size := range edgeSizes {
		s, plain := bits.Of(size), []int{}
		for range 200 {
			n := draw(size+3) - 1
			there := slices.Contains(plain, n)
			fits := n >= 0 && n < size
			wantBool(t, "Has", s.Has(n), there)
			if draw(3) > 0 {
				added := s.Add(n)
				wantBool(t, "Add tells one", added == 1, fits && !there)
				if added == 1 {
					plain = append(plain, n)
				}
			} else {
				wantBool(t, "Drop tells one", s.Drop(n) == 1, there)
				plain = slices.DeleteFunc(plain, func(m int) bool { return m == n })
			}
			wantNumber(t, "Count()", s.Count(), len(plain))
		}
		slices.Sort(plain)
		wantMembers(t, "a long run of turns", s, plain...)
	}
}
