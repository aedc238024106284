package match_test

import (
	"fmt"
	"math"
	"regexp"
	"slices"
	"strings"
	"testing"

	"cracknel/api"
	"cracknel/host"
	"cracknel/match"
	"cracknel/sample"
)

func named(name string) api.Host {
	return api.Host{Kind: api.HostName, Name: name}
}

// read: the host that a text is.
func read(t *testing.T, s string) api.Host {
	t.Helper()
	h, e := host.Parse(s)
	if e != api.OK {
		t.Fatalf("%q is no host", s)
	}
	return h
}

func isDomain(t *testing.T, h, d api.Host, want bool) {
	t.Helper()
	if got := match.Domain(h, d); got != want {
		t.Errorf("Domain(%.100v, %.100v) = %v", h, d, got)
	}
}

func isPath(t *testing.T, path, of string, want bool) {
	t.Helper()
	if got := match.Path(path, of); got != want {
		t.Errorf("Path(%.100q, %.100q) = %v", path, of, got)
	}
}

func isDefault(t *testing.T, path, want string) {
	t.Helper()
	if got := match.Default(path); got != want {
		t.Errorf("Default(%.100q) = %.100q, not %.100q", path, got, want)
	}
}

func isSent(t *testing.T, c api.Cookie, r api.Request, now int64, want bool) {
	t.Helper()
	if got := match.Sends(c, r, now); got != want {
		t.Errorf("Sends(%.400v, %.200v, %d) = %v", c, r, now, got)
	}
}

func isKey(t *testing.T, a, b api.Cookie, want bool) {
	t.Helper()
	if got := match.Key(a, b); got != want {
		t.Errorf("Key(%.400v, %.400v) = %v", a, b, got)
	}
	if got := match.Key(b, a); got != want {
		t.Errorf("Key(%.400v, %.400v) = %v", b, a, got)
	}
}

// isAhead: does a go ahead of b, and b not ahead of a?
func isAhead(t *testing.T, a, b api.Cookie) {
	t.Helper()
	if !match.Ahead(a, b) || match.Ahead(b, a) {
		t.Errorf("Ahead of %.400v and %.400v: %v, and the other way round %v", a, b, match.Ahead(a, b), match.Ahead(b, a))
	}
}

// P9.1

func TestDomain(t *testing.T) {
	for _, one := range []struct {
		h, d string
		want bool
	}{
		{"a.com", "a.com", true},
		{"com", "com", true},
		{"b.a.com", "a.com", true},
		{"c.b.a.com", "a.com", true},
		{"c.b.a.com", "com", true},
		{"a.a", "a", true},
		{"1.a", "a", true},
		{"A.Com", "a.cOM", true},
		{"B.A.Com", "a.com", true},
		{"a.com", "b.a.com", false},
		{"com", "a.com", false},
		{"ba.com", "a.com", false},
		{"b-a.com", "a.com", false},
		{"a.com", "b.com", false},
		{"b.a.com", "c.a.com", false},
		{"b.a.com", "b.com", false},
		{"b.a.com", "b.a", false},
		{"b.a.com", "b", false},
		{"a.com", "m", false},
		{"a.com", "a.org", false},
	} {
		isDomain(t, read(t, one.h), read(t, one.d), one.want)
	}
}

// An address belongs to itself alone, whatever its text ends with.
func TestDomainOfAddresses(t *testing.T) {
	all := []string{"1.2.3.4", "0.0.0.0", "0.0.0.1", "255.255.255.255", "11.2.3.4", "[::]", "[::1]", "[::102:304]", "[::ffff:102:304]", "[1:2:3:4:5:6:7:8]", "a", "a.com", "com", "1.2.3.a", "3.a"}
	for i, h := range all {
		for k, d := range all {
			under := h == "a.com" && d == "com" || h == "1.2.3.a" && (d == "3.a" || d == "a") || h == "3.a" && d == "a"
			isDomain(t, read(t, h), read(t, d), i == k || under)
		}
	}
	isDomain(t, read(t, "[::1]"), read(t, "[0:0:0:0:0:0:0:1]"), true)
}

// A host that isn't right belongs to none, itself neither, and none to it.
func TestDomainOfHostsThatAreNotRight(t *testing.T) {
	all := sample.WrongHosts()
	for _, h := range all {
		for _, d := range all {
			isDomain(t, h, d, false)
		}
		for _, name := range []string{"com", "a.com", "b.a.com", "1.2.3.4", "[2001::1]"} {
			isDomain(t, h, read(t, name), false)
			isDomain(t, read(t, name), h, false)
		}
	}
	isDomain(t, named("b.A.com"), named("A.com"), false)
	isDomain(t, named("b.a.1"), named("a.1"), false)
	isDomain(t, named(".com"), named("com"), false)
	isDomain(t, named("a..com"), named("com"), false)
	isDomain(t, named("a.com."), named("com."), false)
	isDomain(t, named("a."), named(""), false)
}

// Of all pairs of short names: one belongs to the other one, if that is its
// end, and nothing or a point stands ahead of that.
func TestDomainOfManyNames(t *testing.T) {
	var right []string
	all := sample.Texts(4, ".", "a", "B", "1", "b")
	for _, s := range all {
		if host.Right(named(s)) {
			right = append(right, s)
		}
	}
	for _, s := range right {
		for _, end := range right {
			isDomain(t, named(s), named(end), strings.HasSuffix("."+s, "."+end))
		}
		for _, wrong := range all {
			if !host.Right(named(wrong)) {
				isDomain(t, named(s), named(wrong), false)
				isDomain(t, named(wrong), named(s), false)
			}
		}
	}
}

func TestPath(t *testing.T) {
	for _, one := range []struct {
		path, of string
		want     bool
	}{
		{"/", "/", true},
		{"/a", "/", true},
		{"/a/b", "/", true},
		{"//", "/", true},
		{"/a", "/a", true},
		{"/a/", "/a", true},
		{"/a/b", "/a", true},
		{"/a//", "/a", true},
		{"/a/b", "/a/", true},
		{"/a/", "/a/", true},
		{"/a//b", "/a/", true},
		{"/a//b", "/a//", true},
		{"/a/b/c", "/a/b", true},
		{"//a", "//", true},
		{"/", "/a", false},
		{"/a", "/a/", false},
		{"/ab", "/a", false},
		{"/ab/c", "/a", false},
		{"/a.b", "/a", false},
		{"/a%2Fb", "/a", false},
		{"/a?/", "/a", false},
		{"/a\\b", "/a", false},
		{"/b", "/a", false},
		{"/b/a", "/a", false},
		{"/a/b", "/b", false},
		{"/A/b", "/a", false},
		{"/a", "/A", false},
		{"/a/b", "/a/bc", false},
		{"/a/c", "/a/b", false},
		{"/a/b", "//", false},
		{"/a/b", "/a//", false},
		// Of texts that are no paths likewise.
		{"a", "a", true},
		{"a/b", "a", true},
		{"a/b", "a/", true},
		{"ab", "a", false},
		{"a/b", "/a", false},
		{"/a/b", "a", false},
		{"?/x", "?", true},
		{"?x", "?", false},
		{"\xff", "\xff", true},
		{"\xff/", "\xff", true},
		{"/\x00/", "/\x00", true},
		{"/\xc3\xa4", "/\xc3", false},
	} {
		isPath(t, one.path, one.of, one.want)
	}
}

// To the empty text paths belong, and the empty text.
func TestPathOfEmpty(t *testing.T) {
	for path, want := range map[string]bool{"": true, "/": true, "/x": true, "//": true, "/x/y": true, "x": false, "x/": false, "x/y": false, " ": false, " /": false, "?": false, "\x00": false, "\xff/": false} {
		isPath(t, path, "", want)
		if path != "" {
			isPath(t, "", path, false)
		}
	}
}

// Which bytes may stand behind a path that belongs to it: `/` alone, but all
// behind a `/`.
func TestPathOfEachByte(t *testing.T) {
	for c := range 256 {
		s := string([]byte{byte(c)})
		isPath(t, "/a"+s, "/a", s == "/")
		isPath(t, "/a"+s+"b", "/a", s == "/")
		isPath(t, "/a"+s+"/", "/a", s == "/")
		isPath(t, "/a/"+s, "/a/", true)
		isPath(t, "/a/"+s+"b", "/a/", true)
		isPath(t, s, "/", s == "/")
		isPath(t, "/a/b", "/a"+s, s == "/")
		isPath(t, s+"a", "", s == "/")
		isPath(t, s+"/a", s, true)
		isPath(t, s, s+"a", false)
		isPath(t, s, s, true)
	}
}

// A path belongs to another one, if it is that, or begins with that and one
// `/` behind it, that of its own end too.
func TestPathOfManyTexts(t *testing.T) {
	for _, all := range [][]string{sample.Texts(5, "/", "a", "b"), sample.Texts(4, "/", "a", ".", "\xff", "//")} {
		for _, path := range all {
			for _, of := range all {
				want := path == of || strings.HasPrefix(path, strings.TrimSuffix(of, "/")+"/")
				isPath(t, path, of, want)
			}
		}
	}
}

func TestDefault(t *testing.T) {
	for path, want := range map[string]string{
		"":         "/",
		"x":        "/",
		"x/y":      "/",
		"x/y/z":    "/",
		"x//":      "/",
		" /a/b":    "/",
		"?/a/b":    "/",
		"\x00/a/b": "/",
		"/":        "/",
		"/a":       "/",
		"/abc":     "/",
		"/a/":      "/a",
		"/a/b":     "/a",
		"/a/bc":    "/a",
		"/abc/d":   "/abc",
		"/a/b/":    "/a/b",
		"/a/b/c":   "/a/b",
		"//":       "/",
		"//a":      "/",
		"///":      "//",
		"/a//":     "/a/",
		"/a//b":    "/a/",
		"//a/b":    "//a",
		"/a?/b":    "/a?",
		"/a?b":     "/",
		"/a/b?c":   "/a",
		"/a#b/c":   "/a#b",
		"/\n/\n":   "/\n",
		"/\xff/a":  "/\xff",
		"/a/\xff":  "/a",
		"/A/B":     "/A",
		"/a\\b":    "/",
		"/a%2Fb":   "/",
		"/a/%2F/b": "/a/%2F",
	} {
		isDefault(t, path, want)
	}
}

var aheadOfLast = regexp.MustCompile(`(?s)^(/.*)/[^/]*$`)

func TestDefaultOfManyTexts(t *testing.T) {
	all := append(sample.Texts(8, "/", "a", "b"), sample.Texts(5, "/", "a", "\n", "\xff", "?", ".")...)
	for _, path := range all {
		want := "/"
		if m := aheadOfLast.FindStringSubmatch(path); m != nil {
			want = m[1]
		}
		isDefault(t, path, want)
		if strings.HasPrefix(path, "/") {
			isPath(t, path, want, true)
		}
	}
}

func TestExamples(t *testing.T) {
	isPath(t, "/a/b", "/a", true)
	isPath(t, "/a/b", "/a/", true)
	isPath(t, "/ab", "/a", false)
	isDefault(t, "/a/b", "/a")
}

// P9.2

// sure: a cookie, and a request with which it goes, at times below 10.
func sure(t *testing.T) (api.Cookie, api.Request) {
	c := api.Cookie{Name: "a", Value: "b", Host: read(t, "a.com"), Path: "/p", Expires: 10}
	r := api.Request{Host: read(t, "a.com"), Path: "/p/q"}
	isSent(t, c, r, 0, true)
	return c, r
}

func TestSendsToHosts(t *testing.T) {
	for _, one := range []struct {
		to, of          string
		only, belonging bool
	}{
		{"a.com", "a.com", true, true},
		{"b.a.com", "a.com", false, true},
		{"c.b.a.com", "a.com", false, true},
		{"a.com", "com", false, true},
		{"a.com", "b.a.com", false, false},
		{"ba.com", "a.com", false, false},
		{"com", "a.com", false, false},
		{"b.com", "a.com", false, false},
		{"1.2.3.4", "1.2.3.4", true, true},
		{"1.2.3.4", "1.2.3.5", false, false},
		{"1.2.3.4", "[::102:304]", false, false},
		{"[::1]", "[::1]", true, true},
		{"[::1]", "[::2]", false, false},
		{"1.2.3.4", "a.com", false, false},
		{"a.com", "1.2.3.4", false, false},
	} {
		c, r := sure(t)
		c.Host, r.Host = read(t, one.of), read(t, one.to)
		isSent(t, c, r, 0, one.belonging)
		c.Only = true
		isSent(t, c, r, 0, one.only)
	}
}

func TestSendsToHostsThatAreNotRight(t *testing.T) {
	for _, only := range []bool{false, true} {
		for _, h := range sample.WrongHosts() {
			c, r := sure(t)
			c.Only = only
			r.Host = h
			isSent(t, c, r, 0, false)
			c.Host = h
			isSent(t, c, r, 0, false)
			r.Host = read(t, "b.a.com")
			isSent(t, c, r, 0, false)
		}
	}
}

func TestSendsToPaths(t *testing.T) {
	for _, one := range []struct {
		to, of string
		want   bool
	}{
		{"/p", "/p", true}, {"/p/", "/p", true}, {"/p/q", "/p", true}, {"/p/q", "/p/", true}, {"/p", "/", true}, {"/", "/", true}, {"/p", "", true}, {"", "", true}, {"p", "p", true},
		{"/p", "/p/", false}, {"/pq", "/p", false}, {"/", "/p", false}, {"/q", "/p", false}, {"/P", "/p", false}, {"", "/", false}, {"", "/p", false}, {"p", "", false}, {"p/q", "/p", false}, {"/p", "/p/q", false},
	} {
		c, r := sure(t)
		c.Path, r.Path = one.of, one.to
		isSent(t, c, r, 0, one.want)
	}
}

func TestSendsBySchemes(t *testing.T) {
	for _, one := range [][3]bool{
		// The cookie is Secure, the request is, it goes.
		{false, false, true}, {false, true, true}, {true, true, true}, {true, false, false},
	} {
		c, r := sure(t)
		c.Secure, r.Secure = one[0], one[1]
		isSent(t, c, r, 0, one[2])
	}
}

func TestSendsAcross(t *testing.T) {
	wants := map[int][3]bool{
		api.SameDefault: {true, true, false},
		api.SameNone:    {true, true, true},
		api.SameLax:     {true, true, false},
		api.SameStrict:  {true, false, false},
	}
	for same, want := range wants {
		for _, secure := range []bool{false, true} {
			c, r := sure(t)
			c.Same, r.Secure = same, secure
			for cross := range want {
				r.Cross = cross
				isSent(t, c, r, 0, want[cross])
			}
			for _, cross := range []int{3, 4, -1, -2, 256, 257, 258, 1 << 32, 1<<32 + 1, 1<<32 + 2, math.MaxInt, math.MinInt} {
				r.Cross = cross
				isSent(t, c, r, 0, false)
			}
		}
	}
}

func TestSendsInTime(t *testing.T) {
	for _, one := range []struct {
		now, expires int64
		want         bool
	}{
		{9, 10, true}, {10, 10, false}, {11, 10, false}, {0, 10, true}, {-1, 10, true},
		{0, 0, false}, {-1, 0, true}, {0, 1, true}, {1, 0, false}, {0, -1, false}, {-2, -1, true}, {-1, -1, false},
		{1 << 40, 1<<40 + 1, true}, {1 << 40, 1 << 40, false}, {1 << 32, 1, false}, {1, 1 << 32, true},
		{0, api.Never, true}, {1 << 40, api.Never, true}, {math.MaxInt64 - 1, api.Never, true}, {math.MinInt64, api.Never, true},
		// Nothing ends behind Never, and it is no time either.
		{math.MaxInt64, api.Never, false},
		{math.MinInt64, math.MinInt64, false}, {math.MinInt64, math.MinInt64 + 1, true}, {math.MaxInt64, math.MinInt64, false}, {0, math.MinInt64, false},
	} {
		c, r := sure(t)
		c.Expires = one.expires
		isSent(t, c, r, one.now, one.want)
	}
}

// What else a cookie has tells nothing of where it goes.
func TestSendsWhateverElseACookieHas(t *testing.T) {
	for _, change := range []func(c *api.Cookie){
		func(c *api.Cookie) { c.Name = "" },
		func(c *api.Cookie) { c.Name = "__Host-a" },
		func(c *api.Cookie) { c.Value = "" },
		func(c *api.Cookie) { c.HttpOnly = true },
		func(c *api.Cookie) { c.Born = 100 },
		func(c *api.Cookie) { c.Used = -100 },
		func(c *api.Cookie) { c.Seq = math.MinInt },
	} {
		c, r := sure(t)
		change(&c)
		isSent(t, c, r, 9, true)
		isSent(t, c, r, 10, false)
	}
}

// holds says once more what the chapter says, each condition for itself.
func holds(c api.Cookie, r api.Request, now int64) bool {
	text, own := host.Text(r.Host), host.Text(c.Host)
	same := r.Host == c.Host && host.Right(r.Host)
	below := host.Right(r.Host) && host.Right(c.Host) && r.Host.Kind == 1 && c.Host.Kind == 1 && strings.HasSuffix(text, "."+own)
	crosses := [3][]int{{0, 1, 2, 3}, {0, 1, 2}, {1}}
	return !slices.Contains([]bool{
		same || below && !c.Only,
		match.Path(r.Path, c.Path),
		!(c.Secure && !r.Secure),
		r.Cross >= 0 && r.Cross < 3 && slices.Contains(crosses[r.Cross], c.Same),
		c.Expires > now,
	}, false)
}

// requests of all kinds, some to hosts and paths that can't be.
func requests(t *testing.T) []api.Request {
	var all []api.Request
	for _, h := range []api.Host{read(t, "a.com"), read(t, "b.a.com"), read(t, "com"), read(t, "1.2.3.4"), read(t, "[::1]"), named("A.com"), {}} {
		for _, path := range []string{"/", "/p", "/p/q", "/pq", "", "p"} {
			for cross := -1; cross <= 3; cross++ {
				all = append(all, api.Request{Host: h, Path: path, Cross: cross}, api.Request{Secure: true, Host: h, Path: path, Cross: cross})
			}
		}
	}
	return all
}

func TestSendsOfAllKinds(t *testing.T) {
	all := requests(t)
	sent := 0
	for _, h := range []api.Host{read(t, "a.com"), read(t, "com"), read(t, "1.2.3.4"), read(t, "[::1]"), named("A.com"), {}} {
		for _, path := range []string{"/", "/p", "/p/", ""} {
			for kind := range 16 {
				c := api.Cookie{Host: h, Path: path, Only: kind&1 > 0, Secure: kind&2 > 0, Same: kind >> 2, Expires: 5}
				for _, r := range all {
					want := holds(c, r, 4)
					isSent(t, c, r, 4, want)
					isSent(t, c, r, 5, false)
					if want {
						sent++
					}
				}
			}
		}
	}
	if sent < 1000 {
		t.Errorf("%d are sent", sent)
	}
}

// P9.3

func TestKey(t *testing.T) {
	a := api.Cookie{Name: "a", Value: "b", Host: read(t, "a.com"), Path: "/p", Expires: 10}
	isKey(t, a, a, true)
	isKey(t, api.Cookie{}, api.Cookie{}, true)
	isKey(t, a, api.Cookie{}, false)
	for _, change := range []func(c *api.Cookie){
		func(c *api.Cookie) { c.Name = "" },
		func(c *api.Cookie) { c.Name = "A" },
		func(c *api.Cookie) { c.Name = "a " },
		func(c *api.Cookie) { c.Name = "aa" },
		func(c *api.Cookie) { c.Host.Name = "b.a.com" },
		func(c *api.Cookie) { c.Host.Name = "com" },
		func(c *api.Cookie) { c.Host.Name = "A.com" },
		func(c *api.Cookie) { c.Host.Kind = api.HostV4 },
		func(c *api.Cookie) { c.Host.Addr[15] = 1 },
		func(c *api.Cookie) { c.Host.Addr[0] = 1 },
		func(c *api.Cookie) { c.Host = api.Host{} },
		func(c *api.Cookie) { c.Only = true },
		func(c *api.Cookie) { c.Path = "/" },
		func(c *api.Cookie) { c.Path = "/p/" },
		func(c *api.Cookie) { c.Path = "/P" },
		func(c *api.Cookie) { c.Path = "/p/q" },
		func(c *api.Cookie) { c.Path = "" },
		// Together they have the same bytes.
		func(c *api.Cookie) { c.Name, c.Path = "a/", "p" },
		func(c *api.Cookie) { c.Name, c.Path = "a/p", "" },
		func(c *api.Cookie) { c.Name, c.Path = "/p", "a" },
		func(c *api.Cookie) { c.Name, c.Host.Name = "aa", ".com" },
		func(c *api.Cookie) { c.Host.Name, c.Path = "a.com/", "p" },
	} {
		b := a
		change(&b)
		isKey(t, a, b, false)
		isKey(t, b, b, true)
	}
}

func TestKeyWhateverElseACookieHas(t *testing.T) {
	for _, a := range []api.Cookie{{}, {Name: "a", Value: "b", Host: read(t, "a.com"), Only: true, Path: "/p", Expires: 10}, {Name: "a", Host: read(t, "1.2.3.4"), Path: "p"}, {Host: named("A.com"), Path: "\xff"}} {
		for _, change := range []func(c *api.Cookie){
			func(c *api.Cookie) { c.Value = "c" },
			func(c *api.Cookie) { c.Secure = true },
			func(c *api.Cookie) { c.HttpOnly = true },
			func(c *api.Cookie) { c.Same = api.SameStrict },
			func(c *api.Cookie) { c.Same = -5 },
			func(c *api.Cookie) { c.Expires = api.Never },
			func(c *api.Cookie) { c.Born = 7 },
			func(c *api.Cookie) { c.Used = 7 },
			func(c *api.Cookie) { c.Seq = 7 },
			func(c *api.Cookie) { *c = api.Cookie{Name: c.Name, Host: c.Host, Only: c.Only, Path: c.Path} },
		} {
			b := a
			change(&b)
			isKey(t, a, b, true)
		}
	}
}

func TestAhead(t *testing.T) {
	for _, one := range []struct {
		a, b       string
		seqA, seqB int
	}{
		{"/p", "/", 1, 2},
		{"/p", "/", 2, 1},
		{"/p", "/", 1, 1},
		{"/p", "", 9, 1},
		{"", "", 1, 2},
		{"/p/q", "/p", math.MaxInt, math.MinInt},
		// It is bytes that make a path long, not pieces, nor letters.
		{"/ppp", "/p/", 9, 1},
		{"///", "/p", 9, 1},
		{"/\u00e4", "/a", 9, 1},
		{"/\xff\xff", "/\xc3", 9, 1},
		{"pp", "/", 9, 1},
		{"/p", "/p", 1, 2},
		{"/q", "/p", 1, 2},
		{"/p", "/q", 1, 2},
		{"/p", "//", 1, 2},
		{"/p", "/p", 0, 1},
		{"/p", "/p", -1, 0},
		{"/p", "/p", -2, -1},
		{"/p", "/p", 1, 1 << 32},
		{"/p", "/p", math.MinInt, math.MaxInt},
		{"/p", "/p", math.MinInt, 0},
		{"/p", "/p", 0, math.MaxInt},
		{"/p", "/p", math.MaxInt - 1, math.MaxInt},
		{"/p", "/p", math.MinInt, math.MinInt + 1},
	} {
		isAhead(t, api.Cookie{Path: one.a, Seq: one.seqA}, api.Cookie{Path: one.b, Seq: one.seqB})
	}
	isAhead(t, api.Cookie{Path: "/" + strings.Repeat("a", 2048), Seq: 9}, api.Cookie{Path: "/" + strings.Repeat("a", 2047), Seq: 1})
}

// None goes ahead of one with as long a path and its number, whatever else
// they have.
func TestAheadOfNone(t *testing.T) {
	for _, a := range []api.Cookie{{}, {Name: "a", Path: "/p", Seq: 3}, {Path: "\xff", Seq: math.MinInt}} {
		for _, b := range []api.Cookie{
			{}, {Name: "a"}, {Name: "z", Value: "z"}, {Value: "b"}, {Host: read(t, "a.com")}, {Host: read(t, "[::1]"), Only: true}, {Secure: true, HttpOnly: true}, {Same: 3}, {Expires: api.Never}, {Expires: -1}, {Born: 1}, {Born: -1}, {Used: 1}, {Used: -1},
		} {
			b.Path, b.Seq = a.Path, a.Seq
			if match.Ahead(a, b) || match.Ahead(b, a) {
				t.Errorf("Ahead of %v and %v", a, b)
			}
		}
	}
}

// Cookies sorted by Ahead stand by falling lengths of paths, then by rising
// numbers.
func TestAheadSorts(t *testing.T) {
	var all []api.Cookie
	for i, path := range sample.Texts(3, "/", "a", "bc") {
		for k := range 5 {
			all = append(all, api.Cookie{Path: path, Seq: (i*5+k)*7919%1000 - 300})
		}
	}
	slices.SortFunc(all, func(a, b api.Cookie) int {
		switch {
		case match.Ahead(a, b):
			return -1
		case match.Ahead(b, a):
			return 1
		}
		return 0
	})
	for i, a := range all[:len(all)-1] {
		b := all[i+1]
		if len(a.Path) < len(b.Path) || len(a.Path) == len(b.Path) && a.Seq >= b.Seq {
			t.Errorf("%q %d ahead of %q %d", a.Path, a.Seq, b.Path, b.Seq)
		}
	}
}

// P1, P2

// answers writes down what all calls say of a text, and of hosts, cookies and
// requests made of it.
func answers(s string) string {
	h, d := named(s), named("a")
	c := api.Cookie{Name: s, Host: d, Path: s, Expires: int64(len(s)), Seq: len(s)}
	r := api.Request{Host: h, Path: s, Cross: len(s) - 1}
	other := api.Cookie{Name: s, Host: h, Only: true, Path: "/a", Same: len(s), Expires: api.Never, Seq: -len(s)}
	all := fmt.Sprintf("%q", match.Default(s))
	for _, one := range []string{"", "/", "a", s} {
		all += fmt.Sprint(match.Path(s, one), match.Path(one, s))
	}
	return all + fmt.Sprint(match.Domain(h, d), match.Domain(d, h), match.Domain(h, h),
		match.Sends(c, r, 2), match.Sends(other, r, -5), match.Key(c, other), match.Key(c, c), match.Ahead(c, other), match.Ahead(other, c))
}

func TestAnswersHangOnArgumentsAlone(t *testing.T) {
	all := sample.Texts(5, "/", ".", "a", "B", "1", "\xff")
	for _, s := range sample.Unsteady(all, answers) {
		t.Errorf("%q: two answers", s)
	}
}

func TestGreatTexts(t *testing.T) {
	const size = 1 << 24
	for _, unit := range []string{"a", "/", "a/", "/a", ".", "a.", "1.", "\xff", "\x00"} {
		s := strings.Repeat(unit, size/len(unit))
		isPath(t, s, s, true)
		isPath(t, s+"/", s, true)
		isPath(t, s, s+"a", false)
		isPath(t, s+"a", s, strings.HasSuffix(s, "/"))
		isPath(t, s, "/", unit[0] == '/')
		if d := match.Default(s); !strings.HasPrefix(d, "/") || len(d) >= size {
			t.Errorf("Default of %.10q has %d bytes", s, len(d))
		}
		isDomain(t, named(s), named(s), false)
		isDomain(t, named(s), named("a"), false)
		isDomain(t, named("a"), named(s), false)
		c, r := sure(t)
		c.Name, c.Path, r.Path = s, s, s
		isSent(t, c, r, 0, true)
		isKey(t, c, c, true)
		c.Host, r.Host = named(s), named(s)
		isSent(t, c, r, 0, false)
	}
}

// Of a Same that is none of the four a call still answers.
func TestSameThatIsNone(t *testing.T) {
	for _, same := range []int{4, -1, 256, 1 << 32, math.MaxInt, math.MinInt} {
		for _, r := range requests(t) {
			match.Sends(api.Cookie{Host: r.Host, Path: "/", Same: same, Expires: api.Never}, r, 0)
		}
	}
}
