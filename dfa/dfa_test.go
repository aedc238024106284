package dfa_test

import (
	"fmt"
	"math/rand/v2"
	"slices"
	"testing"

	"cracknel/api"
	"cracknel/dfa"
	"cracknel/sample"
)

// most is how many states there may be.
const most = 65536

// op is a call of P15.3 for two, and what of what each tells it tells.
type op struct {
	name string
	call func(a, b api.DFA) (api.DFA, api.Errno)
	of   func(a, b bool) bool
}

// ops are all three.
func ops() []op {
	return []op{
		{"Both", dfa.Both, func(a, b bool) bool { return a && b }},
		{"Either", dfa.Either, func(a, b bool) bool { return a || b }},
		{"Less", dfa.Less, func(a, b bool) bool { return a && !b }},
	}
}

// right says once more what the chapter says of RIGHT.
func right(d api.DFA) bool {
	n := len(d.Accept)
	if d.K < 1 || d.K > 512 || n < 1 || n > 65536 || len(d.Next) != n*d.K {
		return false
	}
	return d.Start >= 0 && d.Start < n && slices.Min(d.Next) >= 0 && slices.Max(d.Next) < n
}

// tells says once more what the chapter says of TELLS.
func tells(d api.DFA, w ...int) bool {
	if !right(d) {
		return false
	}
	at := d.Start
	for len(w) > 0 {
		if w[0] < 0 || w[0] > d.K-1 {
			return false
		}
		at = d.Next[at*d.K : at*d.K+d.K][w[0]]
		w = w[1:]
	}
	return d.Accept[at]
}

// pairs: how many pairs of states can be come to by the same words.
func pairs(a, b api.DFA) int {
	start := [2]int{a.Start, b.Start}
	come := map[[2]int]int{start: 1}
	todo := [][2]int{start}
	for len(todo) > 0 {
		at := todo[len(todo)-1]
		todo = todo[:len(todo)-1]
		for x := range a.K {
			to := [2]int{a.Next[at[0]*a.K+x], b.Next[at[1]*b.K+x]}
			if come[to] == 0 {
				come[to] = 1
				todo = append(todo, to)
			}
		}
	}
	return len(come)
}

// short: an automaton in few letters.
func short(d api.DFA) string {
	return fmt.Sprintf("%.300s", fmt.Sprint(d))
}

// isRight: does Right say that an automaton can be, or can't?
func isRight(t *testing.T, d api.DFA, want bool) {
	t.Helper()
	if got := dfa.Right(d); got != want || got != right(d) {
		t.Errorf("Right(%s) = %v", short(d), got)
	}
}

// isTold: does Tells say of a word that it is told, or isn't?
func isTold(t *testing.T, d api.DFA, want bool, w ...int) {
	t.Helper()
	if got := dfa.Tells(d, w...); got != want || got != tells(d, w...) {
		t.Errorf("Tells(%s, %.100s) = %v", short(d), fmt.Sprint(w), got)
	}
}

// isMade: is an answer a RIGHT automaton over k symbols, of at most n states?
func isMade(t *testing.T, d api.DFA, code api.Errno, k, n int) {
	t.Helper()
	if code != api.OK || d.K != k || len(d.Accept) > n {
		t.Fatalf("%s of %d states, not %d, %d symbols, not %d, and %d", short(d), len(d.Accept), n, d.K, k, code)
	}
	isRight(t, d, true)
}

// isNone: is an answer this error, and a zero automaton beside it?
func isNone(t *testing.T, d api.DFA, code, want api.Errno) {
	t.Helper()
	if code != want || d.K != 0 || d.Start != 0 || len(d.Next) != 0 || len(d.Accept) != 0 {
		t.Errorf("%s of %d states, and %d, not %d", short(d), len(d.Accept), code, want)
	}
}

// goesAlong: does an automaton, wherever any word leads to, tell just a word,
// or, if it goes on, all that begin with it? Where a word stands is how many of
// its symbols have come; -1: others have.
func goesAlong(t *testing.T, d api.DFA, on bool, w []int) {
	t.Helper()
	come := map[[2]int]int{}
	todo := [][2]int{{d.Start, 0}}
	for len(todo) > 0 {
		state, at := todo[len(todo)-1][0], todo[len(todo)-1][1]
		todo = todo[:len(todo)-1]
		if d.Accept[state] != (at == len(w)) {
			t.Fatalf("told %v, where %d have come of %.100s", d.Accept[state], at, fmt.Sprint(w))
		}
		for x := range d.K {
			to := -1
			switch {
			case at == len(w) && on:
				to = at
			case at >= 0 && at < len(w) && w[at] == x:
				to = at + 1
			}
			next := [2]int{d.Next[state*d.K+x], to}
			if come[next] == 0 {
				come[next] = 1
				todo = append(todo, next)
			}
		}
	}
}

// isOf: does an automaton, wherever any word leads to, tell what is to be told
// of what two others tell?
func isOf(t *testing.T, d, a, b api.DFA, of func(a, b bool) bool) {
	t.Helper()
	start := [3]int{d.Start, a.Start, b.Start}
	come := map[[3]int]int{start: 1}
	todo := [][3]int{start}
	for len(todo) > 0 {
		s := todo[len(todo)-1]
		todo = todo[:len(todo)-1]
		if d.Accept[s[0]] != of(a.Accept[s[1]], b.Accept[s[2]]) {
			t.Fatalf("%s of %s and %s at %v", short(d), short(a), short(b), s)
		}
		for x := range d.K {
			to := [3]int{d.Next[s[0]*d.K+x], a.Next[s[1]*a.K+x], b.Next[s[2]*b.K+x]}
			if come[to] == 0 {
				come[to] = 1
				todo = append(todo, to)
			}
		}
	}
}

// areOf holds all three calls for two automata against what the chapter says,
// and answers what they answer.
func areOf(t *testing.T, a, b api.DFA) []api.DFA {
	t.Helper()
	var all []api.DFA
	for _, one := range ops() {
		d, code := one.call(a, b)
		isMade(t, d, code, a.K, pairs(a, b))
		isOf(t, d, a, b, one.of)
		all = append(all, d)
	}
	return all
}

// areNone: do all three calls for two automata answer this error?
func areNone(t *testing.T, a, b api.DFA, want api.Errno) {
	t.Helper()
	for _, one := range ops() {
		d, code := one.call(a, b)
		isNone(t, d, code, want)
	}
}

// isNot holds Not against what the chapter says, and answers what it answers.
func isNot(t *testing.T, d api.DFA) api.DFA {
	t.Helper()
	not, code := dfa.Not(d)
	isMade(t, not, code, d.K, len(d.Accept))
	if len(not.Accept) != len(d.Accept) {
		t.Errorf("%d states, not %d", len(not.Accept), len(d.Accept))
	}
	isOf(t, not, d, d, func(a, b bool) bool { return !a })
	return not
}

// P15.1

func TestRight(t *testing.T) {
	for _, k := range []int{1, 2, 3, 92, 511, 512} {
		for _, n := range []int{1, 2, 3, 7, 100} {
			d := sample.Cycle(k, n)
			isRight(t, d, true)
			for _, s := range []int{0, n - 1, n / 2} {
				d.Start = s
				isRight(t, d, true)
				d.Next[0], d.Next[len(d.Next)-1] = s, s
				isRight(t, d, true)
			}
		}
	}
	isRight(t, api.DFA{K: 1, Next: []int{0}, Accept: []bool{false}}, true)
	isRight(t, api.DFA{K: 1, Start: 65535, Next: sample.Cycle(1, most).Next, Accept: make([]bool, most)}, true)
}

func TestRightOfManyStates(t *testing.T) {
	for _, n := range []int{65534, 65535, 65536} {
		d := sample.Cycle(1, n)
		d.Start = n - 1
		isRight(t, d, true)
		isTold(t, d, true, 0)
		isRight(t, sample.Cycle(3, n), true)
	}
	for _, n := range []int{65537, 65538, 65537 + 65536, 1 << 20} {
		isRight(t, sample.Cycle(1, n), false)
		isTold(t, sample.Cycle(1, n), false)
	}
}

func TestRightOfWrongOnes(t *testing.T) {
	for _, d := range sample.WrongDFAs() {
		isRight(t, d, false)
	}
}

// Each number of Next is asked, wherever it stands.
func TestRightOfEachNumber(t *testing.T) {
	d := sample.Cycle(3, 7)
	for i := range d.Next {
		before := d.Next[i]
		for _, to := range append([]int{7, 8}, sample.FarNumbers()...) {
			d.Next[i] = to
			isRight(t, d, false)
			isTold(t, d, false)
		}
		for to := range 7 {
			d.Next[i] = to
			isRight(t, d, true)
		}
		d.Next[i] = before
	}
	for s := range 7 {
		d.Start = s
		isRight(t, d, true)
	}
}

func TestExampleOfWord(t *testing.T) {
	d, code := dfa.Word(2, 0, 1)
	isMade(t, d, code, 2, 4)
	isTold(t, d, true, 0, 1)
	isTold(t, d, false, 0)
	isTold(t, d, false, 0, 1, 1)
	isTold(t, d, false)
	isTold(t, d, false, 1, 0)
	isTold(t, d, false, 0, 0)
}

func TestTellsEmptyWord(t *testing.T) {
	for _, none := range [][]int{nil, {}} {
		d := api.DFA{K: 2, Next: []int{1, 1, 1, 1}, Accept: []bool{true, false}}
		isTold(t, d, true, none...)
		d.Start = 1
		isTold(t, d, false, none...)
		d.Accept[1] = true
		isTold(t, d, true, none...)
	}
}

// A number that is no symbol undoes a word, wherever in it it stands, and
// wherever the word leads.
func TestTellsOtherNumbers(t *testing.T) {
	for _, k := range []int{1, 2, 5, 512} {
		all := sample.Cycle(k, 1)
		lost := api.DFA{K: k, Next: slices.Repeat([]int{1}, 2*k), Accept: []bool{true, false}}
		led := api.DFA{K: k, Next: slices.Repeat([]int{1}, 2*k), Accept: []bool{false, true}}
		for _, odd := range append([]int{k, k + 1, 2 * k}, sample.FarNumbers()...) {
			for length := range 5 {
				for at := range length + 1 {
					w := slices.Insert(make([]int, length), at, odd)
					for _, d := range []api.DFA{all, lost, led} {
						isTold(t, d, false, w...)
					}
					isTold(t, all, true, slices.Delete(w, at, at+1)...)
				}
			}
		}
		isTold(t, all, true, 0, k-1, 0)
		isTold(t, led, true, k-1, k-1)
		isTold(t, lost, false, k-1, 0)
	}
}

func TestTellsOfWrongOnes(t *testing.T) {
	for _, d := range sample.WrongDFAs() {
		isTold(t, d, false)
		isTold(t, d, false, 0)
		isTold(t, d, false, 0, 0, 0)
		isTold(t, d, false, -1)
		isTold(t, d, false, 1<<63-1, 0)
		isTold(t, d, false, d.K)
	}
}

// What can't be come to counts: of one that isn't RIGHT no word is told.
func TestTellsAsksWhatIsFarAway(t *testing.T) {
	d := api.DFA{K: 2, Next: []int{0, 0, 1, 1, 2, 2}, Accept: []bool{true, true, true}}
	isTold(t, d, true, 0, 1)
	for i := 2; i < 6; i++ {
		for _, odd := range []int{-1, 3} {
			far := d
			far.Next = slices.Clone(d.Next)
			far.Next[i] = odd
			isTold(t, far, false)
			isTold(t, far, false, 0, 1)
		}
	}
	d.Next = append(d.Next, 0)
	isTold(t, d, false)
	d.Next = d.Next[:5]
	isTold(t, d, false, 0)
}

func TestTellsAllWords(t *testing.T) {
	r := rand.New(rand.NewPCG(15, 1))
	for range 60 {
		k := r.IntN(3) + 1
		d := sample.AnyDFA(r.IntN, k, r.IntN(6)+1)
		isRight(t, d, true)
		for _, w := range sample.WordsOf(k, 5) {
			isTold(t, d, tells(d, w...), w...)
		}
	}
	for range 200 {
		k := r.IntN(512) + 1
		d := sample.AnyDFA(r.IntN, k, r.IntN(50)+1)
		w := make([]int, r.IntN(300))
		for i := range w {
			w[i] = r.IntN(k)
		}
		isTold(t, d, tells(d, w...), w...)
	}
}

func TestTellsLongWords(t *testing.T) {
	d := sample.Cycle(1, 7)
	for _, n := range []int{6, 7, 8, 70000, 70001, 7000000, 7000001} {
		isTold(t, d, n%7 == 0, make([]int, n)...)
	}
	far := make([]int, 1<<20)
	far[len(far)-1] = 1
	isTold(t, d, false, far...)
	far[len(far)-1] = -1
	isTold(t, sample.Cycle(1, 1), false, far...)
}

// P15.2

func TestNone(t *testing.T) {
	for k := 1; k <= 512; k++ {
		d, code := dfa.None(k)
		isMade(t, d, code, k, 1)
		isTold(t, d, false)
		for _, x := range []int{0, k - 1, k, -1} {
			isTold(t, d, false, x)
			isTold(t, d, false, 0, x, 0)
		}
	}
	for _, k := range sample.WrongKs() {
		if k != 1 {
			d, code := dfa.None(k)
			isNone(t, d, code, api.ErrAuto)
		}
	}
}

// along holds Word and Begins of a word against what the chapter says.
func along(t *testing.T, k int, w ...int) {
	t.Helper()
	d, code := dfa.Word(k, w...)
	isMade(t, d, code, k, len(w)+2)
	goesAlong(t, d, false, w)
	d, code = dfa.Begins(k, w...)
	isMade(t, d, code, k, len(w)+2)
	goesAlong(t, d, true, w)
}

// isNoWord: are Word and Begins this error?
func isNoWord(t *testing.T, want api.Errno, k int, w ...int) {
	t.Helper()
	d, code := dfa.Word(k, w...)
	isNone(t, d, code, want)
	d, code = dfa.Begins(k, w...)
	isNone(t, d, code, want)
}

func TestAllWords(t *testing.T) {
	for k := 1; k <= 3; k++ {
		for _, w := range sample.WordsOf(k, 4) {
			along(t, k, w...)
			word, _ := dfa.Word(k, w...)
			begins, _ := dfa.Begins(k, w...)
			for _, other := range sample.WordsOf(k, 6) {
				isTold(t, word, slices.Equal(other, w), other...)
				isTold(t, begins, len(other) >= len(w) && slices.Equal(other[:len(w)], w), other...)
			}
		}
	}
}

func TestEmptyWord(t *testing.T) {
	for _, none := range [][]int{nil, {}} {
		for _, k := range []int{1, 2, 511, 512} {
			along(t, k, none...)
			word, _ := dfa.Word(k, none...)
			isTold(t, word, true)
			isTold(t, word, false, 0)
			isTold(t, word, false, k-1, k-1)
			begins, _ := dfa.Begins(k, none...)
			isTold(t, begins, true)
			isTold(t, begins, true, 0)
			isTold(t, begins, true, k-1, 0)
			isTold(t, begins, false, k)
			isTold(t, begins, false, 0, -1)
		}
	}
}

func TestManyWords(t *testing.T) {
	r := rand.New(rand.NewPCG(15, 2))
	for range 100 {
		k := r.IntN(512) + 1
		w := make([]int, r.IntN(100))
		for i := range w {
			w[i] = r.IntN(k)
		}
		along(t, k, w...)
	}
	along(t, 512, 511, 0, 511)
	along(t, 92, 13)
}

func TestWrongK(t *testing.T) {
	for _, k := range sample.WrongKs() {
		if k != 1 {
			isNoWord(t, api.ErrAuto, k)
			isNoWord(t, api.ErrAuto, k, 0)
			isNoWord(t, api.ErrAuto, k, k-1)
			isNoWord(t, api.ErrAuto, k, k)
			isNoWord(t, api.ErrAuto, k, 0, 0, 0)
		}
	}
}

// A number that is no symbol undoes it, wherever in the word it stands.
func TestWrongWords(t *testing.T) {
	for _, k := range []int{1, 2, 92, 512} {
		for _, odd := range append([]int{k, k + 1}, sample.FarNumbers()...) {
			for length := range 5 {
				for at := range length + 1 {
					w := slices.Insert(slices.Repeat([]int{k - 1}, length), at, odd)
					isNoWord(t, api.ErrAuto, k, w...)
				}
			}
		}
	}
}

func TestLongestWords(t *testing.T) {
	for _, n := range []int{65533, 65534} {
		w := make([]int, n)
		along(t, 1, w...)
		for i := range w {
			w[i] = i * i % 3
		}
		along(t, 3, w...)
	}
	for _, n := range []int{65535, 65536, 65537, 1 << 20} {
		isNoWord(t, api.ErrStates, 1, make([]int, n)...)
		isNoWord(t, api.ErrStates, 512, make([]int, n)...)
	}
}

// The longest word of the most symbols there may be.
func TestGreatestWord(t *testing.T) {
	w := make([]int, most-2)
	for i := range w {
		w[i] = 511 - i%512
	}
	d, code := dfa.Begins(512, w...)
	isMade(t, d, code, 512, most)
	if !tells(d, w...) || tells(d, w[1:]...) || tells(d, w[:most-3]...) || !tells(d, append(w, 7)...) {
		t.Error("another word")
	}
	not, code := dfa.Not(d)
	isMade(t, not, code, 512, most)
	if tells(not, w...) || !tells(not, w[1:]...) {
		t.Error("not the others")
	}
}

// What isn't a symbol is told ahead of a word that is too long.
func TestWrongAndLong(t *testing.T) {
	for _, n := range []int{65534, 65535, 65536, 1 << 20} {
		for _, at := range []int{0, 1, 65533, n - 1} {
			for _, odd := range []int{-1, 1, 2, 1 << 32, -1 << 63} {
				w := make([]int, n)
				w[at] = odd
				isNoWord(t, api.ErrAuto, 1, w...)
			}
		}
		for _, k := range sample.WrongKs() {
			if k != 1 {
				isNoWord(t, api.ErrAuto, k, make([]int, n)...)
			}
		}
	}
}

// P15.3

func TestNot(t *testing.T) {
	r := rand.New(rand.NewPCG(15, 3))
	for range 300 {
		d := sample.AnyDFA(r.IntN, r.IntN(4)+1, r.IntN(9)+1)
		not := isNot(t, d)
		for _, w := range sample.WordsOf(d.K, 3) {
			isTold(t, not, !tells(d, w...), w...)
		}
	}
	for _, n := range []int{65535, 65536} {
		isNot(t, sample.Cycle(2, n))
	}
	isNot(t, sample.AnyDFA(r.IntN, 512, 40))
}

// Where a state can't be come to, it counts still: there are as many.
func TestNotOfFarStates(t *testing.T) {
	d := api.DFA{K: 1, Start: 2, Next: []int{1, 0, 2, 3}, Accept: []bool{true, false, true, false}}
	not := isNot(t, d)
	isTold(t, not, false)
	isTold(t, not, false, 0)
}

func TestNotOfAllAndOfNothing(t *testing.T) {
	for _, k := range []int{1, 2, 92, 511, 512} {
		none, _ := dfa.None(k)
		all := isNot(t, none)
		nothing := isNot(t, all)
		for _, w := range [][]int{nil, {0}, {k - 1}, {0, k - 1, 0}, {k - 1, k - 1}} {
			isTold(t, all, true, w...)
			isTold(t, nothing, false, w...)
		}
		// Neither tells a word with numbers that are no symbols.
		for _, odd := range append([]int{k, k + 1}, sample.FarNumbers()...) {
			for _, w := range [][]int{{odd}, {odd, 0}, {0, odd}, {0, odd, 0}, {k - 1, k - 1, odd}} {
				isTold(t, none, false, w...)
				isTold(t, all, false, w...)
				isTold(t, nothing, false, w...)
			}
		}
		word, _ := dfa.Word(k, 0)
		isTold(t, isNot(t, word), true)
		isTold(t, isNot(t, word), false, 0)
		isTold(t, isNot(t, word), false, k)
		isTold(t, isNot(t, word), false, 0, -1)
	}
}

func TestNotOfWrongOnes(t *testing.T) {
	for _, d := range sample.WrongDFAs() {
		not, code := dfa.Not(d)
		isNone(t, not, code, api.ErrAuto)
	}
}

// Noughts are even, and a word begins with 1, 0.
func TestTwoSets(t *testing.T) {
	even := api.DFA{K: 2, Next: []int{1, 0, 0, 1}, Accept: []bool{true, false}}
	begins, _ := dfa.Begins(2, 1, 0)
	both, either, less := must(dfa.Both(even, begins)), must(dfa.Either(even, begins)), must(dfa.Less(even, begins))
	turned := must(dfa.Less(begins, even))
	for _, w := range sample.WordsOf(2, 8) {
		noughts := 0
		for _, x := range w {
			noughts += 1 - x
		}
		a, b := noughts%2 == 0, len(w) >= 2 && w[0] == 1 && w[1] == 0
		isTold(t, both, a && b, w...)
		isTold(t, either, a || b, w...)
		isTold(t, less, a && !b, w...)
		isTold(t, turned, b && !a, w...)
	}
}

// must: what a call answers, of which it is known that it does.
func must(d api.DFA, code api.Errno) api.DFA {
	if code != api.OK {
		panic(code)
	}
	return d
}

func TestManyPairs(t *testing.T) {
	r := rand.New(rand.NewPCG(15, 4))
	for range 600 {
		k := r.IntN(4) + 1
		a, b := sample.AnyDFA(r.IntN, k, r.IntN(8)+1), sample.AnyDFA(r.IntN, k, r.IntN(8)+1)
		all := areOf(t, a, b)
		for _, w := range sample.WordsOf(k, 3) {
			for i, one := range ops() {
				isTold(t, all[i], one.of(tells(a, w...), tells(b, w...)), w...)
			}
		}
	}
	for range 20 {
		k := r.IntN(512) + 1
		areOf(t, sample.AnyDFA(r.IntN, k, r.IntN(20)+1), sample.AnyDFA(r.IntN, k, r.IntN(20)+1))
	}
}

// Neither tells a word with numbers that are no symbols, and so none does of
// both.
func TestPairsOfOtherNumbers(t *testing.T) {
	for _, k := range []int{1, 2, 512} {
		all := must(dfa.Begins(k))
		none := must(dfa.None(k))
		for i, d := range append(areOf(t, all, all), areOf(t, all, none)...) {
			isTold(t, d, i == 0 || i == 1 || i == 4 || i == 5, 0, k-1)
			for _, odd := range append([]int{k, k + 1}, sample.FarNumbers()...) {
				isTold(t, d, false, odd)
				isTold(t, d, false, 0, odd)
				isTold(t, d, false, odd, 0)
				isTold(t, d, false, 0, odd, k-1)
			}
		}
	}
}

func TestItself(t *testing.T) {
	r := rand.New(rand.NewPCG(15, 5))
	none := func(bool, bool) bool { return false }
	for range 100 {
		d := sample.AnyDFA(r.IntN, r.IntN(4)+1, r.IntN(12)+1)
		all := areOf(t, d, d)
		same := func(a, _ bool) bool { return a }
		isOf(t, all[0], d, d, same)
		isOf(t, all[1], d, d, same)
		isOf(t, all[2], d, d, none)
		not := isNot(t, d)
		all = areOf(t, d, not)
		isOf(t, all[0], d, d, none)
		isOf(t, all[1], d, d, func(bool, bool) bool { return true })
		isOf(t, all[2], d, d, same)
	}
	// As many pairs as states, not as many as states twice.
	for _, d := range []api.DFA{sample.Cycle(1, most), sample.Cycle(3, most), sample.Cycle(2, 60000)} {
		areOf(t, d, d)
		isNot(t, d)
	}
}

// States that can't be come to are in nobody's way: they make no pairs.
func TestFarStates(t *testing.T) {
	r := rand.New(rand.NewPCG(15, 6))
	for range 100 {
		k, n := r.IntN(3)+1, r.IntN(5)+1
		d := sample.AnyDFA(r.IntN, k, n)
		far := d
		for s := range 300 {
			for range k {
				far.Next = append(far.Next, r.IntN(n+s+1))
			}
			far.Accept = append(far.Accept, s%2 == 0)
		}
		isRight(t, far, true)
		for _, one := range [][2]api.DFA{{d, far}, {far, d}, {far, far}} {
			for _, made := range areOf(t, one[0], one[1]) {
				if len(made.Accept) > n {
					t.Errorf("%d states, not %d", len(made.Accept), n)
				}
			}
		}
	}
	// More than MaxStates pairs there are, but one alone can be come to.
	loop := sample.Tailed(1, 0, 1)
	for range most - 1 {
		loop.Next = append(loop.Next, len(loop.Accept))
		loop.Accept = append(loop.Accept, true)
	}
	for _, made := range append(areOf(t, loop, loop), must(dfa.Both(loop, sample.Cycle(1, 1)))) {
		if len(made.Accept) != 1 {
			t.Errorf("%d states", len(made.Accept))
		}
	}
}

// Of words by the side of which nothing can be told, pairs are few.
func TestNoMoreStatesThanPairs(t *testing.T) {
	long := make([]int, 700)
	a, b := must(dfa.Word(1, long...)), sample.Cycle(1, 701)
	if got := pairs(a, b); got != 701*2 {
		t.Fatal(got)
	}
	areOf(t, a, b)
	areOf(t, b, a)
	areOf(t, must(dfa.Begins(1, long...)), b)
	areOf(t, must(dfa.Word(2, long...)), must(dfa.Begins(2, long[:300]...)))
	areOf(t, must(dfa.None(1)), b)
	areOf(t, b, must(dfa.None(1)))
}

// Just as many pairs as states there may be.
func TestMostPairs(t *testing.T) {
	for _, one := range []struct {
		a, b api.DFA
		want int
	}{
		{sample.Turns(0, 256), sample.Turns(1, 256), most},
		{sample.Turns(1, 512), sample.Turns(0, 128), most},
		{sample.Cycle(1, 65536), sample.Cycle(1, 1), most},
		{sample.Cycle(1, 65536), sample.Cycle(1, 256), most},
		{sample.Cycle(1, 257), sample.Cycle(1, 255), most - 1},
		{sample.Entered(sample.Turns(0, 255)), sample.Entered(sample.Turns(1, 257)), most},
		{sample.Tailed(1, 1, 255), sample.Tailed(1, 0, 257), most},
		{sample.Tailed(1, 30000, 1), sample.Tailed(1, 30000, 35536), most},
		{must(dfa.Word(1, make([]int, most-2)...)), sample.Cycle(1, 1), most},
	} {
		if got := pairs(one.a, one.b); got != one.want {
			t.Fatalf("%d pairs, not %d", got, one.want)
		}
		areOf(t, one.a, one.b)
		areOf(t, one.b, one.a)
	}
}

// One pair more, or many more, is too many, whatever is told.
func TestTooManyPairs(t *testing.T) {
	nothing := sample.Cycle(1, 256)
	nothing.Accept[0] = false
	for _, one := range []struct {
		a, b api.DFA
		want int
	}{
		{sample.Entered(sample.Turns(0, 256)), sample.Entered(sample.Turns(1, 256)), most + 1},
		{sample.Tailed(1, 1, 256), sample.Cycle(1, 65536), most + 1},
		{sample.Tailed(1, 2, 255), sample.Tailed(1, 1, 257), most + 1},
		{sample.Cycle(1, 256), sample.Cycle(1, 257), 65792},
		{nothing, sample.Cycle(1, 257), 65792},
		{sample.Turns(0, 257), sample.Turns(1, 256), 65792},
		{sample.Cycle(92, 256), sample.Cycle(92, 257), 65792},
		{must(dfa.Word(1, make([]int, 60000)...)), sample.Tailed(1, 0, 5536), 60001 + 5536},
		{sample.Cycle(1, 500), sample.Cycle(1, 501), 250500},
	} {
		if got := pairs(one.a, one.b); got != one.want {
			t.Fatalf("%d pairs, not %d", got, one.want)
		}
		areNone(t, one.a, one.b, api.ErrStates)
		areNone(t, one.b, one.a, api.ErrStates)
	}
	areNone(t, sample.Cycle(1, 65536), sample.Cycle(1, 65535), api.ErrStates)
}

func TestPairsOfWrongOnes(t *testing.T) {
	for _, d := range sample.WrongDFAs() {
		for _, other := range []api.DFA{sample.Cycle(1, 1), sample.Cycle(2, 3), sample.Cycle(512, 1), sample.Cycle(1, 65536)} {
			areNone(t, d, other, api.ErrAuto)
			areNone(t, other, d, api.ErrAuto)
		}
		areNone(t, d, d, api.ErrAuto)
	}
}

func TestUnlikeK(t *testing.T) {
	ks := []int{1, 2, 3, 511, 512}
	for _, a := range ks {
		for _, b := range ks {
			if a != b {
				areNone(t, must(dfa.None(a)), must(dfa.None(b)), api.ErrAuto)
				areNone(t, must(dfa.Begins(a, 0)), must(dfa.Word(b, 0)), api.ErrAuto)
			}
		}
	}
}

// ErrAuto is told ahead of too many pairs.
func TestWrongAndManyPairs(t *testing.T) {
	a, b := sample.Cycle(1, 256), sample.Cycle(1, 257)
	areNone(t, a, b, api.ErrStates)
	areNone(t, sample.Cycle(2, 256), b, api.ErrAuto)
	areNone(t, a, sample.Cycle(2, 257), api.ErrAuto)
	for _, odd := range []int{-1, 258} {
		far := b
		far.Next = append(slices.Clone(b.Next), odd)
		far.Accept = append(slices.Clone(b.Accept), false)
		areNone(t, a, far, api.ErrAuto)
		areNone(t, far, a, api.ErrAuto)
		far.Next[257] = 0
		areNone(t, a, far, api.ErrStates)
		far.Start = odd
		areNone(t, a, far, api.ErrAuto)
		areNone(t, far, a, api.ErrAuto)
	}
	areNone(t, sample.Cycle(1, most+1), sample.Cycle(1, 3), api.ErrAuto)
	areNone(t, sample.Cycle(1, 3), sample.Cycle(1, most+1), api.ErrAuto)
}

// What is made goes on being what sets are: what is told of them in two ways
// is one.
func TestLawsOfSets(t *testing.T) {
	r := rand.New(rand.NewPCG(15, 7))
	for range 100 {
		k := r.IntN(3) + 1
		a, b, c := sample.AnyDFA(r.IntN, k, 4), sample.AnyDFA(r.IntN, k, 3), sample.AnyDFA(r.IntN, k, 5)
		notBoth := must(dfa.Not(must(dfa.Both(a, b))))
		isOf(t, notBoth, must(dfa.Not(a)), must(dfa.Not(b)), func(a, b bool) bool { return a || b })
		less := must(dfa.Less(a, must(dfa.Either(b, c))))
		isOf(t, less, must(dfa.Less(a, b)), c, func(a, b bool) bool { return a && !b })
		twice := must(dfa.Not(must(dfa.Not(a))))
		isOf(t, twice, a, a, func(a, _ bool) bool { return a })
	}
}

// P1, P2

func TestNothingIsChangedOrShared(t *testing.T) {
	r := rand.New(rand.NewPCG(15, 8))
	calls := []func(a, b api.DFA) (api.DFA, api.Errno){
		dfa.Both, dfa.Either, dfa.Less, func(a, _ api.DFA) (api.DFA, api.Errno) { return dfa.Not(a) },
	}
	for range 50 {
		k := r.IntN(3) + 1
		for _, call := range calls {
			a, b := sample.RoomyDFA(sample.AnyDFA(r.IntN, k, r.IntN(5)+1)), sample.RoomyDFA(sample.AnyDFA(r.IntN, k, r.IntN(5)+1))
			beforeA, beforeB := sample.WholeDFA(a), sample.WholeDFA(b)
			d, again := must(call(a, b)), must(call(a, b))
			dfa.Right(a)
			dfa.Tells(a, 0)
			if !sample.SameDFA(sample.WholeDFA(a), beforeA) || !sample.SameDFA(sample.WholeDFA(b), beforeB) {
				t.Fatal("changed")
			}
			before := sample.WholeDFA(d)
			sample.SpoilDFA(again)
			if !sample.SameDFA(sample.WholeDFA(a), beforeA) || !sample.SameDFA(sample.WholeDFA(b), beforeB) || !sample.SameDFA(sample.WholeDFA(d), before) {
				t.Fatal("an answer shares what was handed in, or another answer")
			}
			sample.SpoilDFA(a)
			sample.SpoilDFA(b)
			if !sample.SameDFA(sample.WholeDFA(d), before) {
				t.Fatal("an answer hangs on what was handed in")
			}
		}
	}
}

func TestItselfIsNotShared(t *testing.T) {
	for _, one := range ops() {
		d := sample.RoomyDFA(sample.Cycle(2, 5))
		before := sample.WholeDFA(d)
		made := must(one.call(d, d))
		sample.SpoilDFA(made)
		if !sample.SameDFA(sample.WholeDFA(d), before) {
			t.Error(one.name)
		}
	}
}

func TestWordsAreNotChangedOrKept(t *testing.T) {
	for _, call := range []func(k int, w ...int) (api.DFA, api.Errno){
		dfa.Word, dfa.Begins, func(k int, _ ...int) (api.DFA, api.Errno) { return dfa.None(k) },
	} {
		room := []int{2, 0, 1, 9, 8, 7}
		w := room[:3]
		d, again := must(call(3, w...)), must(call(3, w...))
		before := sample.WholeDFA(d)
		dfa.Tells(d, w...)
		if !slices.Equal(room, []int{2, 0, 1, 9, 8, 7}) {
			t.Error("changed")
		}
		sample.SpoilDFA(again)
		room[0], room[1] = 1, 1
		if !sample.SameDFA(sample.WholeDFA(d), before) {
			t.Error("shared")
		}
	}
}

func TestAnswersHangOnArgumentsAlone(t *testing.T) {
	r := rand.New(rand.NewPCG(15, 9))
	for range 50 {
		k := r.IntN(4) + 1
		a, b := sample.AnyDFA(r.IntN, k, 9), sample.AnyDFA(r.IntN, k, 8)
		w := []int{r.IntN(k), r.IntN(k)}
		run := func() []api.DFA {
			return []api.DFA{must(dfa.Both(a, b)), must(dfa.Either(a, b)), must(dfa.Less(a, b)), must(dfa.Not(a)), must(dfa.Word(k, w...)), must(dfa.Begins(k, w...)), must(dfa.None(k))}
		}
		first := run()
		for range 5 {
			if !slices.EqualFunc(run(), first, sample.SameDFA) {
				t.Fatal("two answers")
			}
		}
	}
}
