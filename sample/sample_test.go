package sample_test

import (
	"slices"
	"testing"

	"cracknel/api"
	"cracknel/dfa"
	"cracknel/host"
	"cracknel/sample"
	"cracknel/url"
)

func TestTexts(t *testing.T) {
	if got := sample.Texts(0, "a", "b"); !slices.Equal(got, []string{""}) {
		t.Errorf("%q", got)
	}
	if got := sample.Texts(2, "a", "bc"); !slices.Equal(got, []string{"", "a", "bc", "aa", "abc", "bca", "bcbc"}) {
		t.Errorf("%q", got)
	}
}

func TestUnsteady(t *testing.T) {
	texts := []string{"a", "b", "c"}
	if got := sample.Unsteady(texts, func(s string) string { return s + s }); len(got) != 0 {
		t.Errorf("%q", got)
	}
	before := ""
	got := sample.Unsteady(texts, func(s string) string {
		before += s
		return before[:len(before)-1]
	})
	if !slices.Equal(got, []string{"c", "b", "a"}) {
		t.Errorf("%q", got)
	}
}

func TestWrongHosts(t *testing.T) {
	all := sample.WrongHosts()
	if len(all) < 100 {
		t.Errorf("%d hosts", len(all))
	}
	for _, h := range all {
		if host.Right(h) {
			t.Errorf("Right(%.100v)", h)
		}
	}
}

func TestWrongPaths(t *testing.T) {
	all := sample.WrongPaths()
	if len(all) < 20 {
		t.Errorf("%d paths", len(all))
	}
	for _, path := range all {
		if url.Path(path) {
			t.Errorf("Path(%.100q)", path)
		}
	}
}

func TestWrongURLs(t *testing.T) {
	all := sample.WrongURLs()
	if len(all) < 300 {
		t.Errorf("%d URLs", len(all))
	}
	for _, u := range all {
		if url.Right(u) {
			t.Errorf("Right(%.100v)", u)
		}
	}
}

func TestWrongDFAs(t *testing.T) {
	all := sample.WrongDFAs()
	if len(all) < 500 {
		t.Errorf("%d automata", len(all))
	}
	for i, d := range all {
		if dfa.Right(d) {
			t.Errorf("Right of number %d: %d symbols, %d states", i, d.K, len(d.Accept))
		}
	}
}

func TestRightDFAs(t *testing.T) {
	numbers := 0
	next := func(below int) int {
		numbers++
		return numbers % below
	}
	cycle, tailed, turns := sample.Cycle(2, 3), sample.Tailed(1, 4, 2), sample.Turns(1, 3)
	for _, one := range []struct {
		d    api.DFA
		k, n int
	}{
		{cycle, 2, 3}, {tailed, 1, 6}, {turns, 2, 3}, {sample.Entered(cycle), 2, 4}, {sample.AnyDFA(next, 5, 7), 5, 7},
	} {
		if !dfa.Right(one.d) || one.d.K != one.k || len(one.d.Accept) != one.n {
			t.Errorf("%v", one.d)
		}
	}
	for _, one := range []struct {
		d    api.DFA
		w    []int
		want bool
	}{
		{cycle, []int{0, 1, 0}, true}, {cycle, []int{1, 0}, false}, {sample.Entered(cycle), []int{1}, true}, {sample.Entered(cycle), nil, false},
		{tailed, []int{0, 0, 0}, true}, {tailed, make([]int, 5), false}, {turns, []int{1}, true}, {turns, []int{1, 0, 0}, true}, {turns, []int{1, 1, 1}, false},
	} {
		if dfa.Tells(one.d, one.w...) != one.want {
			t.Errorf("%v tells %v: %v", one.d, one.w, !one.want)
		}
	}
}

func TestWordsOf(t *testing.T) {
	want := [][]int{{}, {0}, {1}, {0, 0}, {0, 1}, {1, 0}, {1, 1}}
	if got := sample.WordsOf(2, 2); !slices.EqualFunc(got, want, slices.Equal) {
		t.Error(got)
	}
	if got := sample.WordsOf(3, 0); len(got) != 1 || len(got[0]) != 0 {
		t.Error(got)
	}
}

func TestRoomOfDFAs(t *testing.T) {
	d := sample.Cycle(2, 3)
	roomy := sample.RoomyDFA(d)
	whole := sample.WholeDFA(roomy)
	if !sample.SameDFA(roomy, d) || sample.SameDFA(whole, d) || len(whole.Next) <= 6 || len(whole.Accept) <= 3 {
		t.Error(roomy, whole)
	}
	sample.SpoilDFA(roomy)
	if spoilt := sample.WholeDFA(roomy); slices.Contains(spoilt.Next, 71) || slices.Equal(spoilt.Accept, whole.Accept) || whole.Next[6] != 71 || d.Next[0] != 1 {
		t.Error(spoilt, whole, d)
	}
}
