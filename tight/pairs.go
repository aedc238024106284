package tight

import "cracknel/api"

// pair is a state of each of two automata.
type pair struct {
	a, b int
}

// pairs holds which pairs were come to, a bit each. They may be as many as the
// states of one automaton by those of the other one: so 512 of them, whose states
// of the second one lie side by side, have one row, and one key.
type pairs struct {
	rows map[pair]int
	bits [][8]uint64
}

// add takes in a pair. Is it new?
func (all *pairs) add(p pair) bool {
	key := pair{p.a, p.b / 512}
	row, ok := all.rows[key]
	if !ok {
		row = len(all.bits)
		all.rows[key] = row
		all.bits = append(all.bits, [8]uint64{})
	}
	word, bit := p.b%512/64, uint64(1)<<(p.b%64)
	if all.bits[row][word]&bit != 0 {
		return false
	}
	all.bits[row][word] |= bit
	return true
}

// wherever: does something hold of both states, wherever one word leads to?
func wherever(a, b api.DFA, holds func(p pair) bool) bool {
	start := pair{a.Start, b.Start}
	come := pairs{rows: map[pair]int{}}
	come.add(start)
	// The nearest ones are looked at first: none is kept but those ahead, and
	// what doesn't hold soon is found soon.
	now, then := []pair{start}, []pair{}
	for len(now) > 0 {
		then = then[:0]
		for _, p := range now {
			if !holds(p) {
				return false
			}
			then = come.leave(then, leaving(a, p.a), leaving(b, p.b))
		}
		now, then = then, now
	}
	return true
}

// leave puts the new ones among the pairs to which two states go behind others.
func (all *pairs) leave(to []pair, a, b []int) []pair {
	last := pair{-1, -1}
	for x := range a {
		// Most symbols go where the one ahead goes: then the map isn't asked again.
		if p := (pair{a[x], b[x]}); p != last {
			last = p
			if all.add(p) {
				to = append(to, p)
			}
		}
	}
	return to
}
