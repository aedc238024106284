package tight

import (
	"math"
	"math/bits"
	"slices"

	"cracknel/api"
)

// maxCounted is how long words are at most that are counted: with longer ones a
// call might not end in anyone's time.
const maxCounted = 65536

// arrow is a way to a state, and by how many symbols it is gone.
type arrow struct {
	to      int
	symbols uint64
}

// tally is how many words of one length lead to each state, and to which ones
// any does.
type tally struct {
	words  []uint64
	states []int
}

// count: how many words of n symbols are told. The numbers of one length tell
// those of the next, so that where they come again, they go round.
func count(d api.DFA, n int) uint64 {
	ways := arrows(d)
	now, then := newTally(d), newTally(d)
	now.add(d.Start, 1)
	before, length := now.clone(), 0
	for i := 1; i <= n; i++ {
		then.follow(now, ways)
		now, then = then, now
		if now.same(before) {
			n = i + (n-i)%(i-length)
		}
		// What is looked for is kept longer and longer, for any round to find it.
		if i == 2*length || i == 1 {
			before, length = now.clone(), i
		}
	}
	return now.told(d)
}

// arrows: where each state goes, no two to one.
func arrows(d api.DFA) [][]arrow {
	all := make([][]arrow, len(d.Accept))
	symbols := make([]uint64, len(d.Accept))
	for s := range all {
		var states []int
		for _, to := range leaving(d, s) {
			if symbols[to] == 0 {
				states = append(states, to)
			}
			symbols[to]++
		}
		for _, to := range states {
			all[s] = append(all[s], arrow{to, symbols[to]})
			symbols[to] = 0
		}
	}
	return all
}

// newTally: of no words.
func newTally(d api.DFA) *tally {
	return &tally{words: make([]uint64, len(d.Accept))}
}

// clone: the same in memory of its own.
func (t *tally) clone() *tally {
	return &tally{words: slices.Clone(t.words), states: slices.Clone(t.states)}
}

// add has more words lead to a state.
func (t *tally) add(s int, words uint64) {
	if t.words[s] == 0 {
		t.states = append(t.states, s)
	}
	t.words[s] = plus(t.words[s], words)
}

// follow makes a tally that of words of one symbol more than another one's.
func (t *tally) follow(before *tally, ways [][]arrow) {
	for _, s := range t.states {
		t.words[s] = 0
	}
	t.states = t.states[:0]
	for _, s := range before.states {
		for _, w := range ways[s] {
			t.add(w.to, times(before.words[s], w.symbols))
		}
	}
}

// same: do as many words lead to each state?
func (t *tally) same(other *tally) bool {
	differs := func(s int) bool { return t.words[s] != other.words[s] }
	return len(t.states) == len(other.states) && !slices.ContainsFunc(t.states, differs)
}

// told: how many of its words lead to states that accept.
func (t *tally) told(d api.DFA) uint64 {
	sum := uint64(0)
	for s, accepts := range d.Accept {
		if accepts {
			sum = plus(sum, t.words[s])
		}
	}
	return sum
}

// plus: a sum, or the greatest number there is.
func plus(a, b uint64) uint64 {
	sum, carry := bits.Add64(a, b, 0)
	if carry != 0 {
		return math.MaxUint64
	}
	return sum
}

// times: a product, or the greatest number there is.
func times(a, b uint64) uint64 {
	high, low := bits.Mul64(a, b)
	if high != 0 {
		return math.MaxUint64
	}
	return low
}
