package forge_test

import (
	"fmt"
	"slices"
	"strings"

	"presage/api"
)

// Q6 and P17.1, said a second time.

// saidOf is what the document answers of a plain grammar, or of a closed one: the closed grammar of a system, or a mishap as a text.
func saidOf(g api.Grammar, isClosed bool) (api.Grammar, string) {
	useful := saidUseful(g)
	switch {
	case isClosed && slices.Contains(useful[len(g.Terms):], false):
		return api.Grammar{}, isArg
	case !useful[g.Start]:
		return api.Grammar{}, isEmpty
	case !isClosed:
		g = saidClosed(g, useful)
	}
	if circle := saidCircle(g); circle != nil {
		return api.Grammar{}, fmt.Sprintf("13 0 %q", circle)
	}
	if saidStates(g) > api.MaxStates {
		return api.Grammar{}, isTooBig
	}
	return g, ""
}

// saidProductive tells of each symbol whether it derives a row of terminals: by trees of rising heights, each from all lower ones.
func saidProductive(g api.Grammar) []bool {
	derives := make([]bool, len(g.Terms)+len(g.Nons))
	for term := range g.Terms {
		derives[term] = true
	}
	for range g.Nons {
		higher := slices.Clone(derives)
		for _, p := range g.Prods {
			if !slices.ContainsFunc(p.Right, func(sym int) bool { return !derives[sym] }) {
				higher[p.Left] = true
			}
		}
		derives = higher
	}
	return derives
}

// saidUseful tells of each symbol whether it stands in a row on the way from the start symbol (of a closed grammar from the added one) to a row of terminals.
func saidUseful(g api.Grammar) []bool {
	derives := saidProductive(g)
	stands := make([]bool, len(derives))
	stands[g.Start] = derives[g.Start]
	if g.Nons[0] == "" {
		stands[len(g.Terms)] = derives[g.Start]
	}
	for range g.Nons {
		for _, p := range g.Prods {
			if stands[p.Left] && !slices.ContainsFunc(p.Right, func(sym int) bool { return !derives[sym] }) {
				for _, sym := range p.Right {
					stands[sym] = true
				}
			}
		}
	}
	return stands
}

// saidClosed is a plain grammar without what is of no use, with the added one.
func saidClosed(g api.Grammar, useful []bool) api.Grammar {
	derives := saidProductive(g)
	numbers := map[int]int{}
	c := api.Grammar{Terms: g.Terms, Nons: []string{""}, Levels: g.Levels}
	for sym := range useful {
		if non := sym - len(g.Terms); non < 0 {
			numbers[sym] = sym
		} else if useful[sym] {
			numbers[sym] = len(g.Terms) + len(c.Nons)
			c.Nons = append(c.Nons, g.Nons[non])
		}
	}
	c.Start = numbers[g.Start]
	c.Prods = []api.Prod{{Left: len(g.Terms), Right: []int{c.Start}}}
	for _, p := range g.Prods {
		moved := api.Prod{Left: numbers[p.Left], Level: p.Level}
		stays := useful[p.Left]
		for _, sym := range p.Right {
			stays = stays && derives[sym]
			moved.Right = append(moved.Right, numbers[sym])
		}
		if stays {
			c.Prods = append(c.Prods, moved)
		}
	}
	return c
}

// saidVanish tells of each symbol whether it derives the empty row.
func saidVanish(c api.Grammar) []bool {
	vanish := make([]bool, len(c.Terms)+len(c.Nons))
	for range c.Nons {
		for _, p := range c.Prods {
			if !slices.ContainsFunc(p.Right, func(sym int) bool { return !vanish[sym] }) {
				vanish[p.Left] = true
			}
		}
	}
	return vanish
}

// far is more steps than any shortest way has.
const far = 1000

// saidDistances are, by two symbols, by how many steps the one derives the other alone, one at least; far or more: by none.
func saidDistances(c api.Grammar) [][]int {
	vanish := saidVanish(c)
	apart := make([][]int, len(vanish))
	for i := range apart {
		apart[i] = slices.Repeat([]int{far}, len(vanish))
	}
	for _, p := range c.Prods {
		for at, sym := range p.Right {
			beside := slices.Concat(p.Right[:at], p.Right[at+1:])
			if sym >= len(c.Terms) && !slices.ContainsFunc(beside, func(sym int) bool { return !vanish[sym] }) {
				apart[p.Left][sym] = 1
			}
		}
	}
	for by := range apart {
		for from := range apart {
			for to := range apart {
				apart[from][to] = min(apart[from][to], apart[from][by]+apart[by][to])
			}
		}
	}
	return apart
}

// saidCircle are the names of the circle that chapter 8 tells; nil: there is none.
func saidCircle(c api.Grammar) []string {
	apart := saidDistances(c)
	for begin := range apart {
		left := apart[begin][begin]
		if left >= far {
			continue
		}
		names := []string{c.Nons[begin-len(c.Terms)]}
		for at := begin; left > 1; left-- {
			// The least one that is a step away, and from which it is as far back as is left.
			for next := range apart {
				if apart[at][next] == 1 && apart[next][begin] == left-1 {
					at = next
					break
				}
			}
			names = append(names, c.Nons[at-len(c.Terms)])
		}
		return names
	}
	return nil
}

// saidStates are how many states a closed grammar has; one more than may be, if there are more.
func saidStates(c api.Grammar) int {
	first := map[api.Item]bool{{}: true}
	states := []map[api.Item]bool{first}
	known := map[string]bool{toldItems(first): true}
	for i := 0; i < len(states) && len(states) <= api.MaxStates; i++ {
		behind := map[int]map[api.Item]bool{}
		for item := range saidClosure(c, states[i]) {
			right := c.Prods[item.Prod].Right
			if item.Dot == len(right) {
				continue
			}
			if behind[right[item.Dot]] == nil {
				behind[right[item.Dot]] = map[api.Item]bool{}
			}
			behind[right[item.Dot]][api.Item{Prod: item.Prod, Dot: item.Dot + 1}] = true
		}
		for _, kernel := range behind {
			if text := toldItems(kernel); !known[text] {
				known[text] = true
				states = append(states, kernel)
			}
		}
	}
	return min(len(states), api.MaxStates+1)
}

func saidClosure(c api.Grammar, kernel map[api.Item]bool) map[api.Item]bool {
	all := map[api.Item]bool{}
	var bring func(item api.Item)
	bring = func(item api.Item) {
		if all[item] {
			return
		}
		all[item] = true
		right := c.Prods[item.Prod].Right
		for prod, p := range c.Prods {
			if item.Dot < len(right) && right[item.Dot] == p.Left {
				bring(api.Item{Prod: prod})
			}
		}
	}
	for item := range kernel {
		bring(item)
	}
	return all
}

// toldItems are items as a text, whatever the order in which they are gone over.
func toldItems(items map[api.Item]bool) string {
	var words []string
	for item := range items {
		words = append(words, fmt.Sprint(item))
	}
	slices.Sort(words)
	return strings.Join(words, " ")
}
