// Package sample makes what the tests of several layers are tried with.
package sample

import (
	"strings"

	"cracknel/api"
)

// Texts answers all texts of at most n of the parts, and the empty one.
func Texts(n int, parts ...string) []string {
	all := []string{""}
	longest := all
	for range n {
		var longer []string
		for _, s := range longest {
			for _, part := range parts {
				longer = append(longer, s+part)
			}
		}
		all = append(all, longer...)
		longest = longer
	}
	return all
}

// Unsteady answers the texts of which a second round, in the other order,
// has other answers than the first one.
func Unsteady(texts []string, answers func(s string) string) []string {
	first := make([]string, len(texts))
	for i, s := range texts {
		first[i] = answers(s)
	}
	var unsteady []string
	for i := len(texts) - 1; i >= 0; i-- {
		if answers(texts[i]) != first[i] {
			unsteady = append(unsteady, texts[i])
		}
	}
	return unsteady
}

// WrongHosts answers hosts that no text is: each would be one, but for its
// kind, for what stands beside what its kind has, or for its name.
func WrongHosts() []api.Host {
	v4, v6 := api.Addr{12: 1, 13: 2, 14: 3, 15: 4}, api.Addr{0: 0x20, 1: 1, 15: 1}
	all := []api.Host{
		{}, {Kind: 2, Addr: v6}, {Kind: 2, Addr: api.Addr{0: 1}}, {Kind: 2, Addr: api.Addr{11: 1, 15: 1}}, {Kind: 2, Name: "1.2.3.4", Addr: v4}, {Kind: 2, Name: "com", Addr: v4}, {Kind: 3, Name: "[2001::1]", Addr: v6}, {Kind: 3, Name: "a.com", Addr: v6},
		{Kind: 1, Addr: v4}, {Kind: 1, Name: "com", Addr: v4}, {Kind: 1, Name: "a.com", Addr: v6}, {Kind: 1, Name: "a.com", Addr: api.Addr{15: 1}}, {Kind: 2, Name: "a.com"}, {Kind: 3, Name: "a.com"},
	}
	for _, kind := range []int{0, 4, 5, -1, -2, 257, 258, 259, 1<<32 + 1, 1<<32 + 2, 1<<32 + 3, 1<<63 - 1, -1 << 63, -1<<63 + 1} {
		all = append(all, api.Host{Kind: kind}, api.Host{Kind: kind, Name: "com"}, api.Host{Kind: kind, Name: "a.com"}, api.Host{Kind: kind, Addr: v4}, api.Host{Kind: kind, Addr: v6})
	}
	for _, name := range wrongNames() {
		all = append(all, api.Host{Kind: api.HostName, Name: name})
	}
	return all
}

// wrongNames: those that no name can have.
func wrongNames() []string {
	long := strings.Repeat("a", api.MaxLabel+1)
	deep := strings.Repeat("a.", api.MaxHost/2)
	return []string{
		"", ".", "..", "A", "COM", "Com", "A.com", "a.Com", "b.A.com", ".com", "com.", "a..com", ".a.com", "a.com.", "1", "1.2.3.4", "a.1", "com.0", "[::1]", "::1", "*", "*.com", "!a.com", " com", "com ", "a com", "a.com\n", "a.com\x00", "a.com\xff", "\u00e4.com", "a.com/", "a.com:80",
		long, long + ".com", "a." + long, deep + "aa", deep + "a.a", deep + "a.a.com",
	}
}

// WrongPaths answers texts that are no paths.
func WrongPaths() []string {
	longest := "/" + strings.Repeat("x", api.MaxPath-1)
	return []string{
		"", "a", "a/", "a/b", "p", "?", "#", "/?", "/#", "/a?", "/a?b", "/a#b", " ", " /", "/ ", "/a b", "/\t", "/\n", "/a\n", "/\x00", "/\x1f", "/\x7f", "/\x80", "/\xff", "/\u00e4",
		longest + "x", longest[:api.MaxPath-1] + "?", longest + " ", strings.Repeat("/", 1<<16),
	}
}

// WrongURLs answers URLs that no text is: each would be one, but for its host,
// its port or its path, or for what it lacks.
func WrongURLs() []api.URL {
	h := api.Host{Kind: api.HostName, Name: "a.x.com"}
	all := []api.URL{{}, {Host: h}, {Port: 80}, {Path: "/"}, {Host: h, Port: 80}, {Host: h, Path: "/"}, {Port: 80, Path: "/"}}
	for _, wrong := range WrongHosts() {
		all = append(all, api.URL{Host: wrong, Port: 80, Path: "/p"})
	}
	for _, port := range []int{0, -1, -80, -443, -65535, -65456, 65536, 65537, 65616, 65979, 131152, 1 << 20, 1<<32 + 80, 1<<48 + 443, 1<<63 - 1, -1 << 63} {
		all = append(all, api.URL{Host: h, Port: port, Path: "/p"})
	}
	for _, path := range WrongPaths() {
		all = append(all, api.URL{Host: h, Port: 80, Path: path})
	}
	for _, u := range all {
		u.Secure = true
		all = append(all, u)
	}
	return all
}
