package sample_test

import (
	"slices"
	"testing"

	"cracknel/host"
	"cracknel/sample"
)

func TestTexts(t *testing.T) {
	if got := sample.Texts(0, "a", "b"); !slices.Equal(got, []string{""}) {
		t.Errorf("%q", got)
	}
	if got := sample.Texts(2, "a", "bc"); !slices.Equal(got, []string{"", "a", "bc", "aa", "abc", "bca", "bcbc"}) {
		t.Errorf("%q", got)
	}
}

func TestUnsteady(t *testing.T) {
	texts := []string{"a", "b", "c"}
	if got := sample.Unsteady(texts, func(s string) string { return s + s }); len(got) != 0 {
		t.Errorf("%q", got)
	}
	before := ""
	got := sample.Unsteady(texts, func(s string) string {
		before += s
		return before[:len(before)-1]
	})
	if !slices.Equal(got, []string{"c", "b", "a"}) {
		t.Errorf("%q", got)
	}
}

func TestWrongHosts(t *testing.T) {
	all := sample.WrongHosts()
	if len(all) < 100 {
		t.Errorf("%d hosts", len(all))
	}
	for _, h := range all {
		if host.Right(h) {
			t.Errorf("Right(%.100v)", h)
		}
	}
}
