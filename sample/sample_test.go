package sample_test

import (
	"slices"
	"testing"

	"cracknel/host"
	"cracknel/sample"
	"cracknel/url"
)

func TestTexts(t *testing.T) {
	if got := sample.Texts(0, "a", "b"); !slices.Equal(got, []string{""}) {
		t.Errorf("%q", got)
	}
	if got := sample.Texts(2, "a", "bc"); !slices.Equal(got, []string{"", "a", "bc", "aa", "abc", "bca", "bcbc"}) {
		t.Errorf("%q", got)
	}
}

func TestUnsteady(t *testing.T) {
	texts := []string{"a", "b", "c"}
	if got := sample.Unsteady(texts, func(s string) string { return s + s }); len(got) != 0 {
		t.Errorf("%q", got)
	}
	before := ""
	got := sample.Unsteady(texts, func(s string) string {
		before += s
		return before[:len(before)-1]
	})
	if !slices.Equal(got, []string{"c", "b", "a"}) {
		t.Errorf("%q", got)
	}
}

func TestWrongHosts(t *testing.T) {
	all := sample.WrongHosts()
	if len(all) < 100 {
		t.Errorf("%d hosts", len(all))
	}
	for _, h := range all {
		if host.Right(h) {
			t.Errorf("Right(%.100v)", h)
		}
	}
}

func TestWrongPaths(t *testing.T) {
	all := sample.WrongPaths()
	if len(all) < 20 {
		t.Errorf("%d paths", len(all))
	}
	for _, path := range all {
		if url.Path(path) {
			t.Errorf("Path(%.100q)", path)
		}
	}
}

func TestWrongURLs(t *testing.T) {
	all := sample.WrongURLs()
	if len(all) < 300 {
		t.Errorf("%d URLs", len(all))
	}
	for _, u := range all {
		if url.Right(u) {
			t.Errorf("Right(%.100v)", u)
		}
	}
}
