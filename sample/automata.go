package sample

import (
	"slices"

	"cracknel/api"
)

// FarNumbers answers numbers that are far from all symbols and states, or are
// such in another size.
func FarNumbers() []int {
	return []int{-1, -2, -255, -256, -512, -65536, 1 << 20, 1 << 31, 1<<31 - 1, 1 << 32, 1<<32 + 1, 1<<32 + 2, 1 << 62, 1<<63 - 1, -1 << 63, -1<<63 + 1, -1 << 31, -1 << 32}
}

// WrongKs answers numbers of symbols that no automaton can have.
func WrongKs() []int {
	return append([]int{0, 513, 514, 1024, 65536, 65537}, FarNumbers()...)
}

// WordsOf answers all words of k symbols, up to a length, the shorter ones
// first.
func WordsOf(k, length int) [][]int {
	all := [][]int{nil}
	for i := 0; len(all[i]) < length; i++ {
		for x := range k {
			all = append(all, append(slices.Clone(all[i]), x))
		}
	}
	return all
}

// Cycle answers an automaton over k symbols, each of which goes round n states;
// only the first one is told.
func Cycle(k, n int) api.DFA {
	d := Tailed(k, 0, n)
	clear(d.Accept)
	d.Accept[0] = true
	return d
}

// Tailed answers an automaton of as many states ahead, one behind the other, and
// a cycle then; each third state is told.
func Tailed(k, ahead, n int) api.DFA {
	d := api.DFA{K: k, Next: make([]int, 0, k*(ahead+n)), Accept: make([]bool, ahead+n)}
	for s := range ahead + n {
		to := s + 1
		if to == ahead+n {
			to = ahead
		}
		for range k {
			d.Next = append(d.Next, to)
		}
		d.Accept[s] = s%3 == 0
	}
	return d
}

// Turns answers an automaton over two symbols, of which one goes round n states,
// and the other one stays; each second state is told.
func Turns(by, n int) api.DFA {
	d := api.DFA{K: 2, Accept: make([]bool, n)}
	for s := range n {
		to := []int{s, s}
		to[by] = (s + 1) % n
		d.Next = append(d.Next, to...)
		d.Accept[s] = s%2 == 1
	}
	return d
}

// Entered answers an automaton with one state ahead of another one's, from which
// all symbols go to where that one starts.
func Entered(d api.DFA) api.DFA {
	n := len(d.Accept)
	return api.DFA{K: d.K, Start: n, Next: append(slices.Clone(d.Next), slices.Repeat([]int{d.Start}, d.K)...), Accept: append(slices.Clone(d.Accept), false)}
}

// AnyDFA answers one of n states, not all of which need be come to. Which one,
// intN tells, by numbers from 0 to below another one.
func AnyDFA(intN func(below int) int, k, n int) api.DFA {
	d := api.DFA{K: k, Start: intN(n), Next: make([]int, k*n), Accept: make([]bool, n)}
	for i := range d.Next {
		d.Next[i] = intN(n)
	}
	for s := range n {
		d.Accept[s] = intN(2) > 0
	}
	return d
}

// WrongDFAs answers automata that aren't RIGHT. Each would be, but for one
// thing.
func WrongDFAs() []api.DFA {
	all := []api.DFA{
		{}, {K: 1}, {K: 1, Next: []int{0}}, {K: 1, Accept: []bool{true}}, {Next: []int{0}}, {Accept: []bool{true}}, {Accept: []bool{true, true}}, {K: 512}, {Next: []int{0}, Accept: []bool{true}}, {Start: 1},
		{K: 1, Next: []int{}, Accept: []bool{}}, {K: 2, Next: []int{0, 0}}, {K: 2, Next: []int{0, 0}, Accept: []bool{}},
		// Numbers of Next that would do of as many states as K, or of none.
		{K: 2, Next: []int{0, 1, 1}, Accept: []bool{true, true}}, {K: 3, Next: []int{0, 0}, Accept: []bool{true}}, {K: 2, Next: []int{0, 1, 1, 0, 0}, Accept: []bool{true, true}},
		// What is as many only where numbers wrap round.
		{K: 1 << 62, Accept: make([]bool, 4)}, {K: 1 << 63 >> 1, Accept: make([]bool, 2)}, {K: 1 << 60, Accept: make([]bool, 16)}, {K: 1<<62 + 1, Next: make([]int, 4), Accept: make([]bool, 4)}, {K: -1 << 63, Accept: make([]bool, 2)},
		Cycle(1, api.MaxStates+1), Cycle(2, api.MaxStates+1), Cycle(513, 1), Cycle(513, 2),
	}
	for _, k := range WrongKs() {
		if k != 1 {
			all = append(all, api.DFA{K: k, Next: []int{0}, Accept: []bool{true}}, api.DFA{K: k, Accept: []bool{true}}, api.DFA{K: k})
		}
	}
	for _, d := range []api.DFA{Cycle(1, 1), Cycle(1, 2), Cycle(2, 1), Cycle(2, 3), Cycle(3, 5), Cycle(512, 2), Cycle(1, api.MaxStates)} {
		all = append(all, wronged(d)...)
	}
	return all
}

// wronged: one that is RIGHT, with numbers that are none of its states, or with
// too few or too many of them.
func wronged(d api.DFA) []api.DFA {
	var all []api.DFA
	n := len(d.Accept)
	for _, far := range append([]int{n, n + 1}, FarNumbers()...) {
		start := d
		start.Start = far
		all = append(all, start)
		for _, at := range []int{0, len(d.Next) / 2, len(d.Next) - 1} {
			next := d
			next.Next = slices.Clone(d.Next)
			next.Next[at] = far
			all = append(all, next)
		}
	}
	shorter, longer, none := d, d, d
	shorter.Next = d.Next[:len(d.Next)-1]
	longer.Next = append(slices.Clone(d.Next), 0)
	none.Next = nil
	return append(all, shorter, longer, none)
}

// RoomyDFA answers an automaton whose lists have spare room, with something in
// it.
func RoomyDFA(d api.DFA) api.DFA {
	next, accept := slices.Concat(d.Next, []int{71, 72, 73}), slices.Concat(d.Accept, []bool{true, false, true})
	d.Next, d.Accept = next[:len(d.Next)], accept[:len(d.Accept)]
	return d
}

// WholeDFA answers an automaton with its spare room, in memory of its own.
func WholeDFA(d api.DFA) api.DFA {
	d.Next, d.Accept = slices.Clone(d.Next[:cap(d.Next)]), slices.Clone(d.Accept[:cap(d.Accept)])
	return d
}

// SameDFA tells whether two automata are one, list by list.
func SameDFA(a, b api.DFA) bool {
	return a.K == b.K && a.Start == b.Start && slices.Equal(a.Next, b.Next) && slices.Equal(a.Accept, b.Accept)
}

// SpoilDFA writes over all of an automaton's lists.
func SpoilDFA(d api.DFA) {
	next, accept := d.Next[:cap(d.Next)], d.Accept[:cap(d.Accept)]
	for i := range next {
		next[i] = -7
	}
	for i := range accept {
		accept[i] = !accept[i]
	}
}
