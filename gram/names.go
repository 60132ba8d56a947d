package gram

import (
	"maps"
	"slices"

	"presage/api"
)

// table numbers names from 1 on, as they come.
type table struct {
	numbers map[string]int
	list    []string
}

// find is the number of a name, 0 if it never came.
func (t *table) find(name string) int { return t.numbers[name] }

func (t *table) size() int { return len(t.list) }

// add gives a name that is new its number. The map is replaced, like the list: see Builder.
func (t *table) add(name string) int {
	numbers := maps.Clone(t.numbers)
	if numbers == nil {
		numbers = map[string]int{}
	}
	t.list = append(slices.Clip(t.list), name)
	numbers[name] = t.size()
	t.numbers = numbers
	return t.size()
}

// termTable has the texts of the terminals, whose handles are their numbers.
type termTable struct{ table }

func (t *termTable) isTerm(handle int) bool { return handle > 0 && handle <= t.size() }

func (t *termTable) termText(handle int) string { return t.list[handle-1] }

// nonTable has the names of the nonterminals, whose handles are their numbers below 0.
type nonTable struct{ table }

func (t *nonTable) isNon(handle int) bool { return handle < 0 && handle >= -t.size() }

func (t *nonTable) nonName(handle int) string { return t.list[-handle-1] }

// isText tells whether a terminal may have this text.
func isText(text string) bool {
	if !hasNameLength(text) {
		return false
	}
	for i := range len(text) {
		if c := text[i]; c < ' ' || c > '~' || c == '\'' {
			return false
		}
	}
	return true
}

// isName tells whether a nonterminal of a plain grammar may have this name.
func isName(name string) bool {
	if !hasNameLength(name) {
		return false
	}
	for i := range len(name) {
		if c := name[i]; !isLetter(c) && (i == 0 || !isDigit(c)) {
			return false
		}
	}
	return true
}

func hasNameLength(s string) bool { return len(s) >= 1 && len(s) <= api.MaxName }

func isLetter(c byte) bool { return c >= 'A' && c <= 'Z' || c >= 'a' && c <= 'z' || c == '_' }

func isDigit(c byte) bool { return c >= '0' && c <= '9' }

func isSide(side int) bool { return side >= api.Left && side <= api.Neither }
