package tight_test

import (
	"fmt"
	"math/big"
	"math/rand/v2"
	"slices"
	"testing"

	"cracknel/api"
	"cracknel/dfa"
	"cracknel/sample"
	"cracknel/tight"
)

// most is how many states there may be.
const most = 65536

// full is told of more words than it says.
const full = 1<<64 - 1

// must: what a call answers, of which it is known that it does.
func must(d api.DFA, code api.Errno) api.DFA {
	if code != api.OK {
		panic(code)
	}
	return d
}

// alls: over k symbols, an automaton that tells all words of them.
func alls(k int) api.DFA {
	return must(dfa.Not(must(dfa.None(k))))
}

// renumbered: the same, each state with a number of its own, but another one.
func renumbered(r *rand.Rand, d api.DFA) api.DFA {
	n := len(d.Accept)
	to := r.Perm(n)
	made := api.DFA{K: d.K, Start: to[d.Start], Next: make([]int, d.K*n), Accept: make([]bool, n)}
	for s := range n {
		made.Accept[to[s]] = d.Accept[s]
		for x := range d.K {
			made.Next[to[s]*d.K+x] = to[d.Next[s*d.K+x]]
		}
	}
	return made
}

// blown: what tells the same in n states, each of which is one of d's, and goes
// to any of those that are the right one of d's.
func blown(r *rand.Rand, d api.DFA, n int) api.DFA {
	made := api.DFA{K: d.K, Next: make([]int, 0, d.K*n), Accept: make([]bool, 0, n)}
	is := make([]int, n)
	are := make([][]int, len(d.Accept))
	for s := range n {
		is[s] = s
		if s >= len(d.Accept) {
			is[s] = r.IntN(len(d.Accept))
		}
		are[is[s]] = append(are[is[s]], s)
	}
	for s := range n {
		for _, to := range d.Next[is[s]*d.K:][:d.K] {
			made.Next = append(made.Next, are[to][r.IntN(len(are[to]))])
		}
		made.Accept = append(made.Accept, d.Accept[is[s]])
	}
	made.Start = are[d.Start][r.IntN(len(are[d.Start]))]
	return renumbered(r, made)
}

// newest: over two symbols, what is told is told by which symbol stood as many
// places ahead of the end. (All of its states are needed.)
func newest(ahead int) api.DFA {
	n := 1 << ahead
	d := api.DFA{K: 2, Accept: make([]bool, n)}
	for s := range n {
		d.Next = append(d.Next, 2*s%n, (2*s+1)%n)
		d.Accept[s] = s >= n/2
	}
	return d
}

// short: an automaton in few letters.
func short(d api.DFA) string {
	return fmt.Sprintf("%.300s", fmt.Sprint(d))
}

// right says once more what layer 15 says of RIGHT.
func right(d api.DFA) bool {
	n := len(d.Accept)
	if d.K < 1 || d.K > 512 || n < 1 || n > most || len(d.Next) != n*d.K {
		return false
	}
	return d.Start >= 0 && d.Start < n && slices.Min(d.Next) >= 0 && slices.Max(d.Next) < n
}

// fewest says how many states are needed: those that can be come to are told
// apart by words of no symbols, of one, of two, and so on, till one symbol more
// tells no more of them apart.
func fewest(d api.DFA) int {
	come := map[int]int{d.Start: 0}
	for todo := []int{d.Start}; len(todo) > 0; todo = todo[1:] {
		for x := range d.K {
			to := d.Next[todo[0]*d.K+x]
			if _, ok := come[to]; !ok {
				come[to] = 0
				todo = append(todo, to)
			}
		}
	}
	for s := range come {
		if d.Accept[s] {
			come[s] = 1
		}
	}
	for before := 0; ; {
		kinds := map[string]int{}
		kind := make(map[int]int, len(come))
		for s, was := range come {
			text := fmt.Append(nil, was)
			for x := range d.K {
				text = fmt.Append(text, " ", come[d.Next[s*d.K+x]])
			}
			if _, ok := kinds[string(text)]; !ok {
				kinds[string(text)] = len(kinds)
			}
			kind[s] = kinds[string(text)]
		}
		if len(kinds) == before {
			return before
		}
		before, come = len(kinds), kind
	}
}

// numbered: are states numbered in the order in which they are come to, state by
// state and symbol by symbol, from 0 on, and is each come to?
func numbered(d api.DFA) bool {
	come := 1
	for i, to := range d.Next {
		if i/d.K >= come || to > come {
			return false
		}
		if to == come {
			come++
		}
	}
	return d.Start == 0 && come == len(d.Accept)
}

// mirrors: does each state to which a word leads stand for one state of what is
// made alone, to which that word leads there, and do both accept?
func mirrors(d, made api.DFA) bool {
	stands := make([]int, len(d.Accept))
	for s := range stands {
		stands[s] = -1
	}
	stands[d.Start] = made.Start
	for todo := []int{d.Start}; len(todo) > 0; todo = todo[1:] {
		s := todo[0]
		if d.Accept[s] != made.Accept[stands[s]] {
			return false
		}
		for x := range d.K {
			to, want := d.Next[s*d.K+x], made.Next[stands[s]*d.K+x]
			if stands[to] < 0 {
				stands[to] = want
				todo = append(todo, to)
			}
			if stands[to] != want {
				return false
			}
		}
	}
	return true
}

// isTight holds Tight against what the chapter says of an automaton of which it
// is known how many states are needed, and answers what it answers.
func isTight(t *testing.T, d api.DFA, states int) api.DFA {
	t.Helper()
	made, code := tight.Tight(d)
	switch {
	case code != api.OK || !right(made) || made.K != d.K:
		t.Fatalf("Tight(%s) is %s, and %d", short(d), short(made), code)
	case len(made.Accept) != states:
		t.Fatalf("Tight(%s) has %d states, not %d", short(d), len(made.Accept), states)
	case !numbered(made):
		t.Fatalf("Tight(%s) is %s: wrong numbers", short(d), short(made))
	case !mirrors(d, made):
		t.Fatalf("Tight(%s) is %s: it tells other words", short(d), short(made))
	}
	return made
}

// isMade: is Tight just this one?
func isMade(t *testing.T, d, want api.DFA) {
	t.Helper()
	if made, code := tight.Tight(d); code != api.OK || !sample.SameDFA(made, want) {
		t.Errorf("Tight(%s) is %s, and %d, not %s", short(d), short(made), code, short(want))
	}
}

// holds: does something hold, wherever one word leads to in both? It goes from
// pair to pair.
func holds(a, b api.DFA, of func(a, b bool) bool) bool {
	start := [2]int{a.Start, b.Start}
	come := map[[2]int]int{start: 1}
	for todo := [][2]int{start}; len(todo) > 0; {
		s := todo[len(todo)-1]
		todo = todo[:len(todo)-1]
		if !of(a.Accept[s[0]], b.Accept[s[1]]) {
			return false
		}
		for x := range a.K {
			to := [2]int{a.Next[s[0]*a.K+x], b.Next[s[1]*b.K+x]}
			if come[to] == 0 {
				come[to] = 1
				todo = append(todo, to)
			}
		}
	}
	return true
}

// isSame: does Same answer just this, both ways round?
func isSame(t *testing.T, a, b api.DFA, want bool) {
	t.Helper()
	for range 2 {
		if got, code := tight.Same(a, b); got != want || code != api.OK {
			t.Errorf("Same(%s, %s) is %v, and %d", short(a), short(b), got, code)
		}
		a, b = b, a
	}
}

// isWithin: does Within answer just this?
func isWithin(t *testing.T, a, b api.DFA, want bool) {
	t.Helper()
	if got, code := tight.Within(a, b); got != want || code != api.OK {
		t.Errorf("Within(%s, %s) is %v, and %d", short(a), short(b), got, code)
	}
}

// areCompared holds Same and Within of two against what the chapter says, and
// against their Tight ones.
func areCompared(t *testing.T, a, b api.DFA) {
	t.Helper()
	same := holds(a, b, func(a, b bool) bool { return a == b })
	isSame(t, a, b, same)
	if one := sample.SameDFA(must(tight.Tight(a)), must(tight.Tight(b))); one != same {
		t.Errorf("Tight of %s and of %s: %v, but they are the same: %v", short(a), short(b), one, same)
	}
	isWithin(t, a, b, holds(a, b, func(a, b bool) bool { return b || !a }))
	isWithin(t, b, a, holds(b, a, func(b, a bool) bool { return a || !b }))
}

// isEmpty: does Empty answer just this?
func isEmpty(t *testing.T, d api.DFA, want bool) {
	t.Helper()
	if got, code := tight.Empty(d); got != want || code != api.OK {
		t.Errorf("Empty(%s) is %v, and %d", short(d), got, code)
	}
}

// isCount: does Count answer just this?
func isCount(t *testing.T, d api.DFA, n int, want uint64) {
	t.Helper()
	if got, code := tight.Count(d, n); got != want || code != api.OK {
		t.Errorf("Count(%s, %d) is %d, and %d, not %d", short(d), n, got, code, want)
	}
}

// counts says once more how many words there are, of no symbols, of one, and so
// on up to a length: as many as are told from where each symbol leads.
func counts(d api.DFA, longest int) []uint64 {
	var all []uint64
	greatest := new(big.Int).SetUint64(full)
	told := make([]*big.Int, len(d.Accept))
	for s, accepts := range d.Accept {
		told[s] = new(big.Int)
		if accepts {
			told[s].SetInt64(1)
		}
	}
	for range longest + 1 {
		all = append(all, told[d.Start].Uint64())
		more := make([]*big.Int, len(told))
		for s := range more {
			more[s] = new(big.Int)
			for x := range d.K {
				more[s].Add(more[s], told[d.Next[s*d.K+x]])
			}
			if more[s].Cmp(greatest) > 0 {
				more[s].Set(greatest)
			}
		}
		told = more
	}
	return all
}

// areCounted holds Count of some lengths against what the chapter says.
func areCounted(t *testing.T, d api.DFA, lengths ...int) {
	t.Helper()
	all := counts(d, slices.Max(lengths))
	for _, n := range lengths {
		isCount(t, d, n, all[n])
	}
}

// upTo: all numbers up to one.
func upTo(n int) []int {
	var all []int
	for i := range n + 1 {
		all = append(all, i)
	}
	return all
}

// areWrong: do all calls of two automata answer ErrAuto, and nothing beside it?
func areWrong(t *testing.T, a, b api.DFA) {
	t.Helper()
	for range 2 {
		if got, code := tight.Same(a, b); got || code != api.ErrAuto {
			t.Errorf("Same(%s, %s) is %v, and %d", short(a), short(b), got, code)
		}
		if got, code := tight.Within(a, b); got || code != api.ErrAuto {
			t.Errorf("Within(%s, %s) is %v, and %d", short(a), short(b), got, code)
		}
		a, b = b, a
	}
}

// P16.1

func TestTightOfNothingAndOfAll(t *testing.T) {
	for _, k := range []int{1, 2, 3, 92, 511, 512} {
		nothing := api.DFA{K: k, Next: make([]int, k), Accept: []bool{false}}
		all := api.DFA{K: k, Next: make([]int, k), Accept: []bool{true}}
		isMade(t, nothing, nothing)
		isMade(t, all, all)
		for _, n := range []int{2, 3, 64, 1000} {
			d := sample.Tailed(k, n/2, n-n/2)
			for s := range d.Accept {
				d.Accept[s] = false
			}
			d.Start = n / 3
			isMade(t, d, nothing)
			isMade(t, must(dfa.Not(d)), all)
		}
	}
}

func TestTightOfEmptyWord(t *testing.T) {
	for _, k := range []int{1, 2, 512} {
		want := api.DFA{K: k, Next: slices.Repeat([]int{1}, 2*k), Accept: []bool{true, false}}
		isMade(t, must(dfa.Word(k)), want)
		isMade(t, want, want)
		isMade(t, must(dfa.Not(want)), must(dfa.Not(want)))
		// The state that is lost comes first, and twice.
		turned := api.DFA{K: k, Start: 2, Next: slices.Concat(make([]int, k), slices.Repeat([]int{0}, k), slices.Repeat([]int{1}, k)), Accept: []bool{false, false, true}}
		isMade(t, turned, want)
	}
}

func TestTightOfExample(t *testing.T) {
	want := api.DFA{K: 2, Next: []int{1, 2, 1, 1, 2, 2}, Accept: []bool{false, true, false}}
	isMade(t, must(dfa.Begins(2, 0)), want)
	d := must(dfa.Either(must(dfa.Begins(2, 0, 0)), must(dfa.Begins(2, 0, 1))))
	isMade(t, must(dfa.Either(d, must(dfa.Word(2, 0)))), want)
	isCount(t, d, 3, 4)
}

// State by state and symbol by symbol, from Start on.
func TestOrderOfStates(t *testing.T) {
	for _, one := range []struct{ d, want api.DFA }{
		// By the last symbol first, if it leads anywhere new first.
		{api.DFA{K: 3, Next: []int{0, 0, 1, 0, 2, 0, 2, 2, 2}, Accept: []bool{false, false, true}}, api.DFA{K: 3, Next: []int{0, 0, 1, 0, 2, 0, 2, 2, 2}, Accept: []bool{false, false, true}}},
		// The lesser symbol has the lesser number.
		{api.DFA{K: 2, Next: []int{2, 1, 1, 0, 2, 2}, Accept: []bool{false, true, false}}, api.DFA{K: 2, Next: []int{1, 2, 1, 1, 2, 0}, Accept: []bool{false, false, true}}},
		{api.DFA{K: 2, Next: []int{1, 2, 1, 0, 2, 2}, Accept: []bool{false, true, false}}, api.DFA{K: 2, Next: []int{1, 2, 1, 0, 2, 2}, Accept: []bool{false, true, false}}},
		// All that one state leads to, ahead of what those lead to.
		{api.DFA{K: 2, Start: 4, Next: []int{0, 0, 0, 3, 0, 1, 3, 3, 2, 1}, Accept: []bool{false, true, false, true, false}}, api.DFA{K: 2, Next: []int{1, 2, 3, 2, 3, 4, 3, 3, 4, 4}, Accept: []bool{false, false, true, false, true}}},
		// Start isn't the first one.
		{api.DFA{K: 1, Start: 2, Next: []int{1, 2, 0}, Accept: []bool{true, false, false}}, api.DFA{K: 1, Next: []int{1, 2, 0}, Accept: []bool{false, true, false}}},
		{api.DFA{K: 1, Start: 1, Next: []int{1, 2, 0}, Accept: []bool{true, false, false}}, api.DFA{K: 1, Next: []int{1, 2, 0}, Accept: []bool{false, false, true}}},
		{api.DFA{K: 2, Start: 1, Next: []int{1, 0, 1, 0}, Accept: []bool{false, true}}, api.DFA{K: 2, Next: []int{0, 1, 0, 1}, Accept: []bool{true, false}}},
	} {
		isMade(t, one.d, one.want)
		isTight(t, one.d, len(one.want.Accept))
	}
}

func TestTightOfFarStates(t *testing.T) {
	// The second one can't be come to: it accepts, it tells apart.
	d := api.DFA{K: 2, Start: 3, Next: []int{0, 0, 1, 0, 0, 1, 0, 0, 2, 2}, Accept: []bool{false, true, true, false, true}}
	isMade(t, d, api.DFA{K: 2, Next: []int{0, 0}, Accept: []bool{false}})
	d.Start = 4
	isTight(t, d, 4)
	d.Start = 2
	isTight(t, d, 3)
	r := rand.New(rand.NewPCG(16, 1))
	for range 200 {
		k, n := r.IntN(3)+1, r.IntN(8)+1
		d := sample.AnyDFA(r.IntN, k, n)
		far := d
		for s := range 40 {
			for range k {
				far.Next = append(far.Next, r.IntN(n+s+1))
			}
			far.Accept = append(far.Accept, r.IntN(2) > 0)
		}
		far = renumbered(r, far)
		isMade(t, far, isTight(t, d, fewest(d)))
		isTight(t, far, fewest(far))
	}
}

func TestTightOfManyAutomata(t *testing.T) {
	r := rand.New(rand.NewPCG(16, 2))
	for i := range 3000 {
		d := sample.AnyDFA(r.IntN, r.IntN(3)+1, r.IntN(i%20+1)+1)
		if i%3 > 0 {
			// Where few accept, many fall together.
			for s := range d.Accept {
				d.Accept[s] = s%(i%7+2) == 0
			}
		}
		made := isTight(t, d, fewest(d))
		isMade(t, made, made)
		isMade(t, renumbered(r, d), made)
		isMade(t, renumbered(r, made), made)
		isMade(t, blown(r, d, len(d.Accept)+r.IntN(30)), made)
		isMade(t, must(dfa.Not(must(dfa.Not(d)))), made)
	}
}

func TestTightOfWords(t *testing.T) {
	r := rand.New(rand.NewPCG(16, 3))
	for range 300 {
		k := r.IntN(4) + 1
		d := must(dfa.None(k))
		for range r.IntN(6) {
			w := make([]int, r.IntN(8))
			for i := range w {
				w[i] = r.IntN(k)
			}
			if r.IntN(4) == 0 {
				d = must(dfa.Either(d, must(dfa.Begins(k, w...))))
			} else {
				d = must(dfa.Either(d, must(dfa.Word(k, w...))))
			}
		}
		isTight(t, d, fewest(d))
	}
	for _, n := range []int{0, 1, 10, 1000, most - 2} {
		isTight(t, must(dfa.Word(1, make([]int, n)...)), n+2)
		isTight(t, must(dfa.Word(2, make([]int, n)...)), n+2)
	}
	// Behind a beginning of one symbol alone there is nothing else to tell.
	isTight(t, must(dfa.Begins(1, make([]int, 700)...)), 701)
	isTight(t, must(dfa.Begins(2, make([]int, 700)...)), 702)
}

// How one symbol goes tells states apart, whichever it is.
func TestTightByOneSymbol(t *testing.T) {
	for _, k := range []int{1, 2, 92, 512} {
		for _, by := range []int{0, 1, k / 2, k - 1} {
			if by >= k {
				continue
			}
			n := 120
			d := api.DFA{K: k, Next: make([]int, k*n), Accept: make([]bool, n)}
			for s := range n {
				d.Next[s*k+by] = min(s+1, n-1)
			}
			d.Accept[n-1] = true
			isTight(t, d, n)
			// With the others two by two.
			for s := range n {
				d.Next[s*k+by] = min(s+2, n-2+s%2)
			}
			d.Accept[n-2] = true
			isTight(t, d, n/2)
		}
	}
}

func TestTightOfManySymbols(t *testing.T) {
	r := rand.New(rand.NewPCG(16, 4))
	for range 12 {
		k := 512 - r.IntN(3)
		d := sample.AnyDFA(r.IntN, k, r.IntN(30)+1)
		made := isTight(t, d, fewest(d))
		isMade(t, blown(r, d, 700), made)
		isMade(t, renumbered(r, d), made)
	}
	isTight(t, sample.Cycle(512, 3000), 3000)
	isTight(t, must(dfa.Word(512, upTo(511)...)), 514)
}

// Just as many states as there may be.
func TestTightOfMostStates(t *testing.T) {
	r := rand.New(rand.NewPCG(16, 5))
	// All of them are needed.
	for _, d := range []api.DFA{
		sample.Cycle(1, most), sample.Cycle(3, most), sample.Cycle(20, most), newest(16), must(dfa.Not(sample.Cycle(1, most))), must(dfa.Word(2, make([]int, most-2)...)), must(dfa.Not(must(dfa.Word(1, make([]int, most-2)...)))), must(dfa.Begins(3, slices.Repeat([]int{2, 1}, most/2-1)...)),
	} {
		made := isTight(t, d, most)
		isMade(t, made, made)
		isMade(t, renumbered(r, d), made)
	}
	// One alone accepts, and one less is needed, as Start is in no circle.
	entered := sample.Entered(sample.Cycle(2, most-1))
	isTight(t, entered, most-1)
	entered.Accept[most-1] = true
	isTight(t, entered, most)
	// Few of them are needed.
	for _, d := range []api.DFA{
		must(dfa.None(2)), alls(1), alls(9), must(dfa.Word(2, 1, 0)), newest(5), sample.Tailed(2, 7, 9), sample.AnyDFA(r.IntN, 3, 50),
	} {
		isMade(t, blown(r, d, most), isTight(t, d, fewest(d)))
	}
	isTight(t, sample.Tailed(1, 0, most-1), 3)
	isTight(t, sample.Tailed(2, 1, most-1), 3)
	isTight(t, sample.Tailed(2, 0, most), most)
	isTight(t, sample.Tailed(1, 1, most-1), 3)
	// As many as there are, and as come.
	d := sample.AnyDFA(r.IntN, 2, most)
	isTight(t, d, fewest(d))
}

func TestTightOfWrongOnes(t *testing.T) {
	for _, d := range sample.WrongDFAs() {
		made, code := tight.Tight(d)
		if code != api.ErrAuto || !sample.SameDFA(made, api.DFA{}) {
			t.Errorf("Tight(%s) is %s, and %d", short(d), short(made), code)
		}
	}
}

// P16.2, P16.3

func TestSameAndWithin(t *testing.T) {
	a, b := must(dfa.Begins(2, 0)), must(dfa.Begins(2, 0, 1))
	isSame(t, a, b, false)
	isWithin(t, a, b, false)
	isWithin(t, b, a, true)
	word := must(dfa.Word(2, 0, 1))
	isWithin(t, word, b, true)
	isWithin(t, b, word, false)
	isWithin(t, word, must(dfa.Not(b)), false)
	for _, k := range []int{1, 2, 512} {
		none, all, empty := must(dfa.None(k)), alls(k), must(dfa.Word(k))
		for i, x := range []api.DFA{none, empty, all} {
			for j, y := range []api.DFA{none, empty, all} {
				isSame(t, x, y, i == j)
				isWithin(t, x, y, i <= j)
			}
		}
		// What neither tells is not within what the other one tells.
		other := must(dfa.Word(k, 0))
		isWithin(t, empty, other, false)
		isWithin(t, other, empty, false)
		isSame(t, empty, other, false)
	}
}

func TestCompareManyAutomata(t *testing.T) {
	r := rand.New(rand.NewPCG(16, 6))
	for i := range 2000 {
		k := r.IntN(3) + 1
		a, b := sample.AnyDFA(r.IntN, k, r.IntN(i%9+1)+1), sample.AnyDFA(r.IntN, k, r.IntN(i%9+1)+1)
		areCompared(t, a, b)
		areCompared(t, a, a)
		areCompared(t, a, blown(r, a, 20))
		areCompared(t, renumbered(r, a), renumbered(r, a))
		areCompared(t, a, must(dfa.Not(a)))
		areCompared(t, a, must(dfa.Both(a, b)))
		areCompared(t, must(dfa.Either(a, b)), b)
		areCompared(t, must(dfa.Less(a, b)), must(dfa.Both(a, must(dfa.Not(b)))))
		// One state that accepts, or doesn't, if it can be come to.
		one := blown(r, a, 12)
		one.Accept[r.IntN(12)] = r.IntN(2) > 0
		areCompared(t, a, one)
	}
	for range 10 {
		a, b := sample.AnyDFA(r.IntN, 512, 20), sample.AnyDFA(r.IntN, 512, 7)
		areCompared(t, a, b)
		areCompared(t, a, blown(r, a, 90))
		areCompared(t, a, must(dfa.Either(a, b)))
	}
}

func TestCompareMostStates(t *testing.T) {
	r := rand.New(rand.NewPCG(16, 7))
	for _, d := range []api.DFA{sample.Cycle(1, most), sample.Cycle(3, most), newest(16), blown(r, sample.Turns(1, 9), most), must(dfa.Word(2, make([]int, most-2)...))} {
		other := renumbered(r, d)
		isSame(t, d, d, true)
		isSame(t, d, other, true)
		isWithin(t, d, other, true)
		isWithin(t, other, d, true)
		// One of the states accepts where the other one's doesn't.
		s := slices.Index(other.Accept, false)
		other.Accept[s] = true
		isSame(t, d, other, false)
		isWithin(t, d, other, true)
		isWithin(t, other, d, false)
	}
	// Of unlike numbers of states, at MaxStates, and one and few.
	isSame(t, sample.Cycle(1, most), sample.Cycle(1, most-1), false)
	isWithin(t, sample.Cycle(1, most), sample.Cycle(1, most-1), false)
	isWithin(t, sample.Cycle(1, most), sample.Cycle(1, most/2), true)
	isWithin(t, sample.Cycle(1, most/2), sample.Cycle(1, most), false)
	isWithin(t, sample.Cycle(2, most), sample.Cycle(2, 256), true)
	isWithin(t, sample.Cycle(2, most), sample.Cycle(2, 255), false)
	isSame(t, sample.Tailed(1, 0, most-1), sample.Tailed(1, 0, 3), true)
	isSame(t, sample.Tailed(1, 0, most), sample.Tailed(1, 0, 3), false)
}

// There are far more pairs of states than states that there may be.
func TestCompareByManyPairs(t *testing.T) {
	// What is told in circles that never meet: one of them tells nothing, or all.
	nothing, all := sample.Cycle(1, most), sample.Cycle(1, most-1)
	nothing.Accept[0] = false
	for s := range all.Accept {
		all.Accept[s] = true
	}
	isWithin(t, nothing, all, true)
	isWithin(t, all, nothing, false)
	isWithin(t, nothing, sample.Cycle(1, most-3), true)
	isWithin(t, sample.Cycle(1, most), all, true)
	isSame(t, nothing, all, false)
	other := sample.Cycle(1, most-1)
	other.Accept[0] = false
	isSame(t, nothing, other, true)
	isSame(t, all, alls(1), true)
	// Turns that go round by one symbol each: all pairs are come to.
	for _, n := range []int{100, 256, 300} {
		a, b := sample.Turns(0, n), sample.Turns(1, n+1)
		areCompared(t, a, b)
	}
	// Each word that is told has an even length; of the other one these are told,
	// and more.
	for _, one := range [][2]int{{256, 258}, {2000, 1002}, {514, 3000}, {1024, 1026}} {
		a, b := sample.Cycle(1, one[0]), sample.Cycle(1, one[1])
		for s := range b.Accept {
			b.Accept[s] = s%2 == 0 || s == 5
		}
		isWithin(t, a, b, true)
		isWithin(t, b, a, false)
		isSame(t, a, b, false)
		areCompared(t, a, b)
		// All but one of the lengths, wherever it is.
		for _, not := range []int{2, 64, 128, one[1] / 2 / 2 * 2, one[1] - 4, one[1] - 2} {
			b.Accept[not] = false
			isWithin(t, a, b, false)
			b.Accept[not] = true
		}
		b.Accept[3] = true
		b.Accept[7] = false
		isWithin(t, a, b, true)
	}
}

func TestCompareWrongOnes(t *testing.T) {
	for _, d := range sample.WrongDFAs() {
		for _, other := range []api.DFA{sample.Cycle(1, 1), sample.Cycle(2, 3), sample.Cycle(512, 1), sample.Cycle(1, 9)} {
			areWrong(t, d, other)
		}
		areWrong(t, d, d)
	}
}

func TestUnlikeK(t *testing.T) {
	ks := []int{1, 2, 3, 511, 512}
	for _, a := range ks {
		for _, b := range ks {
			if a != b {
				areWrong(t, must(dfa.None(a)), must(dfa.None(b)))
				areWrong(t, alls(a), alls(b))
				areWrong(t, must(dfa.Begins(a, 0)), must(dfa.Word(b, 0)))
			}
		}
	}
}

func TestEmpty(t *testing.T) {
	for _, k := range []int{1, 2, 92, 512} {
		isEmpty(t, must(dfa.None(k)), true)
		isEmpty(t, alls(k), false)
		isEmpty(t, must(dfa.Word(k)), false)
		isEmpty(t, must(dfa.Word(k, k-1, 0, k-1)), false)
		isEmpty(t, must(dfa.Both(must(dfa.Word(k, 0)), must(dfa.Word(k)))), true)
	}
	r := rand.New(rand.NewPCG(16, 8))
	for range 2000 {
		d := sample.AnyDFA(r.IntN, r.IntN(3)+1, r.IntN(12)+1)
		for s := range d.Accept {
			d.Accept[s] = r.IntN(9) == 0
		}
		isEmpty(t, d, holds(d, d, func(a, _ bool) bool { return !a }))
		isEmpty(t, must(dfa.Less(d, d)), true)
	}
	for _, d := range sample.WrongDFAs() {
		if got, code := tight.Empty(d); got || code != api.ErrAuto {
			t.Errorf("Empty(%s) is %v, and %d", short(d), got, code)
		}
	}
}

// States that accept are there, but no word leads to one; or one does, by one
// symbol at the far end.
func TestEmptyOfFarStates(t *testing.T) {
	d := api.DFA{K: 2, Start: 1, Next: []int{0, 0, 2, 1, 1, 2, 1, 0}, Accept: []bool{true, false, false, true}}
	isEmpty(t, d, true)
	d.Next[5] = 3
	isEmpty(t, d, false)
	d.Accept[3] = false
	isEmpty(t, d, false)
	d.Accept[0] = false
	isEmpty(t, d, true)
	for _, n := range []int{10, most} {
		d := sample.Tailed(3, n-2, 1)
		d.Next = append(d.Next, 0, 0, 0)
		for s := range d.Accept {
			d.Accept[s] = false
		}
		d.Accept = append(d.Accept, true)
		isEmpty(t, d, true)
		d.Next[(n-2)*3+2] = n - 1
		isEmpty(t, d, false)
		d.Start = n - 1
		isEmpty(t, d, false)
	}
}

func TestCountOfFewSymbols(t *testing.T) {
	a := must(dfa.Begins(2, 0))
	for n, want := range map[int]uint64{0: 0, 1: 1, 2: 2, 3: 4, 64: 1 << 63, 65: full, 66: full, 2000: full, most: full} {
		isCount(t, a, n, want)
	}
	empty := must(dfa.Word(2))
	isCount(t, empty, 0, 1)
	isCount(t, empty, 1, 0)
	isCount(t, empty, most, 0)
	word := must(dfa.Word(3, 2, 0))
	for n := range 6 {
		isCount(t, word, n, map[int]uint64{2: 1}[n])
	}
	// Each symbol that leads to one state is one word more.
	for _, k := range []int{1, 2, 92, 512} {
		isCount(t, alls(k), 0, 1)
		isCount(t, alls(k), 1, uint64(k))
		isCount(t, alls(k), 2, uint64(k*k))
		isCount(t, must(dfa.Not(must(dfa.Word(k, 0)))), 1, uint64(k-1))
		isCount(t, must(dfa.None(k)), 1, 0)
		isCount(t, must(dfa.None(k)), most, 0)
	}
}

func TestCountBelowNothing(t *testing.T) {
	for _, n := range []int{-1, -2, -64, -65536, -1 << 31, -1 << 32, -1 << 62, -1 << 63} {
		for _, d := range []api.DFA{alls(1), alls(2), must(dfa.Word(2)), sample.Cycle(3, most)} {
			isCount(t, d, n, 0)
		}
	}
}

func TestCountOfManyAutomata(t *testing.T) {
	r := rand.New(rand.NewPCG(16, 9))
	for i := range 600 {
		d := sample.AnyDFA(r.IntN, r.IntN(4)+1, r.IntN(9)+1)
		areCounted(t, d, upTo(i%90)...)
	}
	for range 20 {
		areCounted(t, sample.AnyDFA(r.IntN, r.IntN(513-1)+1, r.IntN(20)+1), upTo(12)...)
	}
	for range 20 {
		d := sample.AnyDFA(r.IntN, r.IntN(2)+1, r.IntN(5)+1)
		areCounted(t, d, 200, 1023, 1024, 1025, 4000, 4001)
	}
}

// Where the numbers go round, or grow slowly, each length is told right.
func TestCountOfRounds(t *testing.T) {
	for _, d := range []api.DFA{
		sample.Cycle(1, 1), sample.Cycle(1, 2), sample.Cycle(1, 3), sample.Cycle(1, 16), sample.Cycle(1, 17), sample.Cycle(1, 100), sample.Tailed(1, 5, 7), sample.Tailed(1, 64, 3), sample.Tailed(1, 63, 64), sample.Tailed(1, 31, 33), sample.Cycle(3, 7), sample.Turns(0, 5), sample.Turns(1, 5),
		must(dfa.Either(sample.Cycle(1, 8), sample.Cycle(1, 9))), must(dfa.Both(sample.Tailed(1, 2, 5), sample.Cycle(1, 7))), must(dfa.Either(sample.Cycle(2, 10), must(dfa.Begins(2, 1, 0)))),
	} {
		areCounted(t, d, upTo(600)...)
	}
	for _, n := range []int{0, 1, 4, 7, 9973} {
		isCount(t, sample.Cycle(1, 9973), n, map[int]uint64{0: 1, 9973: 1}[n])
	}
	for n := range most + 1 {
		if n%977 == 0 || n > most-40 {
			want := uint64(0)
			if n%7 == 0 {
				want = 1
			}
			isCount(t, sample.Cycle(1, 7), n, want)
		}
	}
}

func TestCountOfLongWords(t *testing.T) {
	isCount(t, sample.Cycle(1, most), most, 1)
	isCount(t, sample.Cycle(1, most), most-1, 0)
	isCount(t, sample.Cycle(1, most-1), most, 0)
	isCount(t, sample.Cycle(1, most-1), most-1, 1)
	isCount(t, must(dfa.Word(1, make([]int, most-2)...)), most-2, 1)
	isCount(t, must(dfa.Word(2, make([]int, most-2)...)), most-1, 0)
	isCount(t, must(dfa.Begins(1, make([]int, most-2)...)), most, 1)
	isCount(t, must(dfa.Begins(4, make([]int, most-2)...)), most, 16)
	isCount(t, must(dfa.Begins(512, make([]int, 60000)...)), 60007, 1<<63)
	isCount(t, must(dfa.Begins(512, make([]int, 60000)...)), 60008, full)
	isCount(t, sample.Cycle(2, most), most, full)
	isCount(t, sample.Cycle(2, most), most-1, 0)
	// Of two symbols, just so many ones.
	for ones := range 7 {
		d := api.DFA{K: 2, Accept: make([]bool, ones+2)}
		for s := range ones + 2 {
			d.Next = append(d.Next, s, min(s+1, ones+1))
		}
		d.Accept[ones] = true
		for _, n := range []int{0, 1, 3, 100, 1000, most - 1, most} {
			want := new(big.Int).Binomial(int64(n), int64(ones))
			if !want.IsUint64() {
				want.SetUint64(full)
			}
			isCount(t, d, n, want.Uint64())
		}
	}
	isCount(t, newest(16), 15, 0)
	isCount(t, newest(16), 16, 1<<15)
	isCount(t, newest(16), 64, 1<<63)
	isCount(t, newest(16), most, full)
}

// Numbers stay what they are but for those that fall away: they don't go round
// yet.
func TestCountWhatFallsAway(t *testing.T) {
	for _, long := range []int{31, 32, 33, 64, 128} {
		// One behind the other, and all others to the state behind them, which
		// many words lead to; from the last two on 3 of the symbols lead to one
		// that is told.
		told, lost := long+1, long+2
		d := api.DFA{K: 8, Next: slices.Repeat([]int{lost}, 8*(long+3)), Accept: make([]bool, long+3)}
		for s := range long {
			d.Next[8*s] = s + 1
		}
		for _, s := range []int{long - 1, long} {
			for x := range 3 {
				d.Next[8*s+5+x] = told
			}
		}
		d.Accept[told] = true
		areCounted(t, d, upTo(200)...)
	}
}

// Just 2^64 - 1 words, one less, one more, and many more.
func TestCountOfMostWords(t *testing.T) {
	noughts, ones := make([]int, 64), slices.Repeat([]int{1}, 64)
	but := must(dfa.Not(must(dfa.Word(2, noughts...))))
	isCount(t, but, 64, full)
	isCount(t, but, 63, 1<<63)
	isCount(t, but, 65, full)
	isCount(t, must(dfa.Less(but, must(dfa.Word(2, ones...)))), 64, full-1)
	isCount(t, alls(2), 63, 1<<63)
	isCount(t, alls(2), 64, full)
	isCount(t, alls(2), 65, full)
	isCount(t, alls(512), 7, 1<<63)
	isCount(t, alls(512), 8, full)
	isCount(t, alls(4), 31, 1<<62)
	isCount(t, alls(4), 32, full)
	isCount(t, alls(3), 40, 12157665459056928801)
	isCount(t, alls(3), 41, full)
	// All of two symbols, and that of another one: 2^64 + 1.
	more := api.DFA{K: 3, Next: []int{1, 1, 2, 1, 1, 3, 3, 3, 2, 3, 3, 3}, Accept: []bool{false, true, true, false}}
	isCount(t, more, 63, 1<<63+1)
	isCount(t, more, 64, full)
	// Of two states that accept each has 2^63, or one less.
	two := api.DFA{K: 2, Next: []int{0, 1, 0, 1}, Accept: []bool{true, true}}
	isCount(t, two, 63, 1<<63)
	isCount(t, two, 64, full)
	isCount(t, must(dfa.Less(two, must(dfa.Word(2, ones...)))), 64, full)
	for k := range 512 {
		if k > 1 {
			areCounted(t, alls(k), 5, 6, 7, 8, 9, 10, 63, 64)
		}
	}
}

func TestCountOfWrongOnes(t *testing.T) {
	for _, d := range sample.WrongDFAs() {
		for _, n := range []int{-1 << 63, -1, 0, 1, 2, 65536, 65537, 1<<63 - 1} {
			if got, code := tight.Count(d, n); got != 0 || code != api.ErrAuto {
				t.Errorf("Count(%s, %d) is %d, and %d", short(d), n, got, code)
			}
		}
	}
}

// Of longer words nothing is promised, but that the call ends.
func TestCountOfLongerWords(t *testing.T) {
	// Of two symbols one one, wherever it is: there are as many words as symbols.
	slow := api.DFA{K: 2, Next: []int{0, 1, 1, 2, 2, 2}, Accept: []bool{false, true, false}}
	for _, n := range []int{65537, 65538, 1 << 20, 1 << 31, 1 << 32, 1<<32 + 3, 1 << 62, 1<<63 - 1} {
		for _, d := range []api.DFA{slow, alls(2), sample.Cycle(1, most), newest(10), must(dfa.Either(sample.Cycle(1, 89), sample.Cycle(1, 97)))} {
			first, code := tight.Count(d, n)
			if again, more := tight.Count(d, n); again != first || more != code {
				t.Errorf("Count(%s, %d) is %d, and then %d", short(d), n, first, again)
			}
		}
	}
}

// P1, P2

func TestNothingIsChangedOrShared(t *testing.T) {
	r := rand.New(rand.NewPCG(16, 10))
	for range 200 {
		d := sample.AnyDFA(r.IntN, r.IntN(3)+1, r.IntN(9)+1)
		// Of one that is tight already Tight is itself, but in memory of its own.
		for _, d := range []api.DFA{d, must(tight.Tight(d))} {
			d = sample.RoomyDFA(d)
			other := sample.RoomyDFA(sample.AnyDFA(r.IntN, d.K, 5))
			before, beforeOther := sample.WholeDFA(d), sample.WholeDFA(other)
			made, again := must(tight.Tight(d)), must(tight.Tight(d))
			tight.Same(d, other)
			tight.Within(d, other)
			tight.Within(other, d)
			tight.Same(d, d)
			tight.Within(d, d)
			tight.Empty(d)
			tight.Count(d, 20)
			if !sample.SameDFA(sample.WholeDFA(d), before) || !sample.SameDFA(sample.WholeDFA(other), beforeOther) {
				t.Fatal("changed")
			}
			kept := sample.WholeDFA(made)
			sample.SpoilDFA(again)
			if !sample.SameDFA(sample.WholeDFA(d), before) || !sample.SameDFA(sample.WholeDFA(made), kept) {
				t.Fatal("an answer shares what was handed in, or another answer")
			}
			sample.SpoilDFA(d)
			if !sample.SameDFA(sample.WholeDFA(made), kept) {
				t.Fatal("an answer hangs on what was handed in")
			}
		}
	}
}

// Where classes stand in a map, its order shows in no answer.
func TestAnswersHangOnArgumentsAlone(t *testing.T) {
	r := rand.New(rand.NewPCG(16, 11))
	for range 60 {
		k := r.IntN(4) + 1
		a, b := blown(r, sample.AnyDFA(r.IntN, k, 30), 90), sample.AnyDFA(r.IntN, k, 20)
		same, _ := tight.Same(a, b)
		within, _ := tight.Within(a, b)
		many, _ := tight.Count(a, 30)
		made := must(tight.Tight(a))
		for range 10 {
			isMade(t, a, made)
			isSame(t, a, b, same)
			isWithin(t, a, b, within)
			isCount(t, a, 30, many)
		}
	}
}
