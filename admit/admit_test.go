package admit_test

import (
	"fmt"
	"math"
	"slices"
	"strings"
	"testing"

	"cracknel/admit"
	"cracknel/api"
	"cracknel/date"
	"cracknel/header"
	"cracknel/host"
	"cracknel/match"
	"cracknel/rule"
	"cracknel/sample"
	"cracknel/suffix"
	"cracknel/url"
)

// noon is when cookies are told, where no other time is named.
const noon = 1000

// table has rules of all kinds.
func table() *suffix.Table {
	all, _ := rule.File("com\nco.uk\n*.ck\n!www.ck\nx.y.com\n")
	return suffix.New(all...)
}

// at: the URL that a text is.
func at(t *testing.T, s string) api.URL {
	t.Helper()
	u, e := url.Parse(s)
	if e != api.OK {
		t.Fatalf("%q is no URL", s)
	}
	return u
}

// says: the header that a text is.
func says(t *testing.T, s string) api.Header {
	t.Helper()
	h, e := header.Parse(s)
	if e != api.OK {
		t.Fatalf("%.100q is no header", s)
	}
	return h
}

// read: the host that a text is.
func read(t *testing.T, s string) api.Host {
	t.Helper()
	h, e := host.Parse(s)
	if e != api.OK {
		t.Fatalf("%q is no host", s)
	}
	return h
}

// shown: the beginning of what a value says.
func shown(x any) string { return fmt.Sprintf("%.300q", fmt.Sprintf("%+v", x)) }

func isTaken(t *testing.T, u api.URL, h api.Header, now int64, want api.Cookie) {
	t.Helper()
	if c, e := admit.Take(table(), u, h, now); c != want || e != api.OK {
		t.Errorf("Take(%s, %s, %d) = %s, %d, not %s", shown(u), shown(h), now, shown(c), e, shown(want))
	}
}

func isRefused(t *testing.T, u api.URL, h api.Header, now int64, want api.Errno) {
	t.Helper()
	if c, e := admit.Take(table(), u, h, now); c != (api.Cookie{}) || e != want {
		t.Errorf("Take(%s, %s, %d) = %s, %d, not %d", shown(u), shown(h), now, shown(c), e, want)
	}
}

// answers: is the header taken of the URL, or is this its error?
func answers(t *testing.T, u, h string, want api.Errno) {
	t.Helper()
	if want != api.OK {
		isRefused(t, at(t, u), says(t, h), noon, want)
		return
	}
	if c, e := admit.Take(table(), at(t, u), says(t, h), noon); e != api.OK || c.Born != noon {
		t.Errorf("%.300s of %s: %s, %d", h, u, shown(c), e)
	}
}

// cookie: what is taken of both.
func cookie(t *testing.T, u, h string) api.Cookie {
	t.Helper()
	c, e := admit.Take(table(), at(t, u), says(t, h), noon)
	if e != api.OK {
		t.Errorf("%s of %s: %d", h, u, e)
	}
	return c
}

// of: so many of these bytes.
func of(size int, s string) string { return strings.Repeat(s, size) }

// inLetters writes a word, the letters of the mask the other way.
func inLetters(word string, mask int) string {
	written := []byte(word)
	for i, c := range written {
		if mask>>i&1 == 1 && (c >= 'a' && c <= 'z' || c >= 'A' && c <= 'Z') {
			written[i] = c ^ 32
		}
	}
	return string(written)
}

// prefixes of names, by what they promise.
var prefixes = [...]string{1: "__Secure-", 2: "__Host-"}

// P10.1

func isPrefix(t *testing.T, name string, want int) {
	t.Helper()
	if got := admit.Prefix(name); got != want {
		t.Errorf("Prefix(%.100q) = %d, not %d", name, got, want)
	}
}

func TestPrefix(t *testing.T) {
	for name, want := range map[string]int{
		"__Secure-a": 1, "__Secure-": 1, "__secure-a": 1, "__SECURE-A": 1, "__sEcUrE-a": 1, "__Secure--": 1, "__Secure-__Host-a": 1, "__Secure-\x00": 1, "__Secure-\xff": 1, "__Secure- a": 1, "__Secure-=;": 1,
		"__Host-a": 2, "__Host-": 2, "__host-a": 2, "__HOST-A": 2, "__hOsT-a": 2, "__Host--": 2, "__Host-__Secure-a": 2, "__Host-\x00": 2, "__Host-\xff": 2, "__Host-Http-a": 2,
		"": 0, "_": 0, "__": 0, "-": 0, "a": 0, "__Secure": 0, "__Host": 0, "__Securea": 0, "__Hosta": 0, "_Secure-a": 0, "_Host-a": 0, "Secure-a": 0, "Host-a": 0, "___Secure-a": 0, "___Host-a": 0, "__Secure_a": 0, "__Host_a": 0, "--Secure-a": 0, "--Host-a": 0,
		" __Secure-a": 0, " __Host-a": 0, "\t__Host-a": 0, "a__Secure-": 0, "a__Host-": 0, "__ Host-a": 0, "__Host -a": 0, "\"__Host-a\"": 0, "__Http-a": 0, "__Hosts-a": 0, "__HostSecure-a": 0, "__SecureHost-a": 0, "__Safe-a": 0,
		"__\u017fecure-a": 0, "__Ho\u017ft-a": 0, "__\u017fECURE-a": 0, "__HO\u017fT-a": 0, "\uff3f\uff3fHost-a": 0, "__Host\u2010a": 0, "%5F%5FHost-a": 0,
	} {
		isPrefix(t, name, want)
	}
}

func TestPrefixInBothLetters(t *testing.T) {
	for promise, prefix := range prefixes {
		for mask := range 1 << len(prefix) {
			written := inLetters(prefix, mask)
			isPrefix(t, written, promise)
			isPrefix(t, written+"a", promise)
			isPrefix(t, "a"+written, 0)
			if written != "" {
				isPrefix(t, written[:len(written)-1], 0)
				isPrefix(t, written[1:], 0)
			}
		}
	}
}

// Each byte in each of a prefix's places.
func TestPrefixOfOtherBytes(t *testing.T) {
	for promise, prefix := range prefixes {
		for i := range len(prefix) {
			for c := range 256 {
				name := prefix[:i] + string([]byte{byte(c)}) + prefix[i+1:]
				letter := prefix[i] | 32
				if byte(c) == prefix[i] || letter >= 'a' && letter <= 'z' && byte(c)|32 == letter {
					isPrefix(t, name+"a", promise)
				} else {
					isPrefix(t, name+"a", 0)
				}
			}
			isPrefix(t, prefix[:i]+prefix[i+1:], 0)
		}
	}
}

// P10.2

// wrongHeaders: those that no text is.
func wrongHeaders() []api.Header {
	good := api.Header{Name: "a", Value: "b"}
	var all []api.Header
	add := func(change func(h *api.Header)) {
		h := good
		change(&h)
		all = append(all, h)
	}
	add(func(h *api.Header) { *h = api.Header{} })
	add(func(h *api.Header) { *h = api.Header{Secure: true, HttpOnly: true, Path: "/"} })
	for _, s := range []string{" a", "a\t", "a;b", "a\n", "\x00", "\x7f", of(4097, "a")} {
		add(func(h *api.Header) { h.Name = s })
		add(func(h *api.Header) { h.Value = s })
	}
	for _, s := range []string{" ", "\t", ";", "\n", "\x00", "\x7f", of(1024, "a")} {
		add(func(h *api.Header) { h.Domain = "x.com" + s })
		add(func(h *api.Header) { h.Path = "/" + s })
	}
	add(func(h *api.Header) { h.Name = "a=b" })
	add(func(h *api.Header) { h.Domain = "X.com" })
	add(func(h *api.Header) { h.Domain = of(1025, "x") })
	add(func(h *api.Header) { h.Path = "a" })
	add(func(h *api.Header) { h.Path = "/" + of(1024, "x") })
	add(func(h *api.Header) { h.Age = 5 })
	add(func(h *api.Header) { h.Expires = 5 })
	for _, age := range []int64{-1, api.MaxAge + 1, math.MaxInt64, math.MinInt64} {
		add(func(h *api.Header) { h.HasAge, h.Age = true, age })
	}
	for _, moment := range []int64{-11644473601, 253402300800, api.Never, math.MinInt64} {
		add(func(h *api.Header) { h.HasExpires, h.Expires = true, moment })
	}
	for _, same := range []int{-1, 4, 1<<32 + 1, math.MaxInt, math.MinInt} {
		add(func(h *api.Header) { h.Same = same })
	}
	return all
}

var wrongTimes = []int64{-1, -1000, math.MinInt64, 1<<40 + 1, 1 << 41, 1 << 62, math.MaxInt64}

// Headers with a fault of each of the later errors.
var faulty = []string{"a=b", "a=b; Domain=x..com", "a=b; Domain=com", "a=b; Domain=y.com", "a=b; Secure", "a=b; SameSite=None", "__Secure-a=b", "__Host-a=b; Path=/"}

func TestWrongURLs(t *testing.T) {
	for _, u := range sample.WrongURLs() {
		for _, h := range faulty {
			isRefused(t, u, says(t, h), noon, api.ErrURL)
		}
		for _, h := range wrongHeaders() {
			isRefused(t, u, h, noon, api.ErrURL)
		}
		for _, now := range wrongTimes {
			isRefused(t, u, says(t, "a=b"), now, api.ErrURL)
			isRefused(t, u, api.Header{}, now, api.ErrURL)
		}
	}
}

func TestWrongHeaders(t *testing.T) {
	for _, h := range wrongHeaders() {
		if header.Right(h) {
			t.Errorf("%s is right", shown(h))
		}
		for _, u := range []string{"http://x.com", "https://a.x.com/p/q", "http://1.2.3.4:8080", "https://com"} {
			isRefused(t, at(t, u), h, noon, api.ErrEmpty)
			for _, now := range wrongTimes {
				isRefused(t, at(t, u), h, now, api.ErrEmpty)
			}
			// Whatever else would be wrong of it.
			h.Secure = true
			isRefused(t, at(t, u), h, noon, api.ErrEmpty)
		}
	}
}

func TestWrongTimes(t *testing.T) {
	for _, now := range wrongTimes {
		for _, h := range faulty {
			isRefused(t, at(t, "http://x.com"), says(t, h), now, api.ErrClock)
		}
	}
	for _, now := range []int64{0, 1, 1 << 31, 1 << 32, 1<<40 - 1, 1 << 40} {
		isTaken(t, at(t, "http://x.com"), says(t, "a=b"), now, api.Cookie{Name: "a", Value: "b", Host: read(t, "x.com"), Only: true, Path: "/", Expires: api.Never, Born: now, Used: now})
		isRefused(t, at(t, "http://x.com"), says(t, "a=b; Secure"), now, api.ErrSecure)
	}
}

func TestDomainThatIsNoHost(t *testing.T) {
	for _, domain := range []string{"x..com", ".x.com", "x.com.", ".", "..", "x com", "x.com:80", "http://x.com", "x.com/", "*.com", "x.1", "1.2.3", "3.4", "1.2.3.256", "[::1", "::1", "[]", "\u00e4.com", "\xff", "x.com,y.com", "x%2Ecom", of(64, "x") + ".com", of(127, "x.") + "com"} {
		for _, u := range []string{"http://x.com", "https://a.x.com", "http://com", "http://1.2.3.4", "https://[::1]"} {
			// One point ahead of a Domain says nothing.
			for _, more := range []string{"", "; Secure", "; SameSite=None", "; Path=/"} {
				answers(t, u, "a=b; Domain=."+domain+more, api.ErrDomain)
				answers(t, u, "__Host-a=b; Domain=."+domain+more, api.ErrDomain)
			}
		}
	}
}

// Public domains are no one's, but those of the host that is told there.
func TestDomainThatIsPublic(t *testing.T) {
	public := []string{"com", "co.uk", "a.ck", "ck", "x.y.com", "org", "localhost"}
	for _, domain := range public {
		for _, u := range []string{"http://q.com", "https://a.b.q.com", "http://q.co.uk", "http://q.a.ck", "http://www.ck", "http://q.x.y.com", "http://y.com", "http://q.org", "http://1.2.3.4", "https://[::1]", "http://net"} {
			for _, more := range []string{"", "; Secure", "; SameSite=None", "; Path=/"} {
				answers(t, u, "a=b; Domain="+domain+more, api.ErrPublic)
				answers(t, u, "__Secure-a=b; Domain=."+strings.ToUpper(domain)+more, api.ErrPublic)
			}
		}
		for _, other := range public {
			want := api.ErrPublic
			if other == domain {
				want = api.OK
			}
			answers(t, "http://"+other, "a=b; Domain="+domain, want)
			answers(t, "https://"+other+":8443/p/q", "a=b; Secure; Domain="+domain, want)
		}
	}
}

func TestDomainThatIsForeign(t *testing.T) {
	for _, one := range []struct {
		host, domain string
		want         api.Errno
	}{
		{"x.com", "x.com", api.OK}, {"a.x.com", "x.com", api.OK}, {"b.a.x.com", "x.com", api.OK}, {"b.a.x.com", "a.x.com", api.OK}, {"www.ck", "www.ck", api.OK}, {"a.www.ck", "www.ck", api.OK}, {"y.com", "y.com", api.OK}, {"x.y.com", "y.com", api.OK}, {"a.x.y.com", "y.com", api.OK},
		{"1.2.3.4", "1.2.3.4", api.OK}, {"[::1]", "[::1]", api.OK}, {"[::1]", "[0:0:0:0:0:0:0:1]", api.OK},
		{"x.com", "a.x.com", api.ErrForeign}, {"x.com", "y.com", api.ErrForeign}, {"ax.com", "x.com", api.ErrForeign}, {"a-x.com", "x.com", api.ErrForeign}, {"a.x.com", "b.x.com", api.ErrForeign}, {"x.com", "x.com.org", api.ErrForeign}, {"com", "x.com", api.ErrForeign}, {"x.co.uk", "y.co.uk", api.ErrForeign}, {"ck", "www.ck", api.ErrForeign}, {"a.ck", "www.ck", api.ErrForeign}, {"x.com", "x.org", api.ErrForeign},
		{"1.2.3.4", "1.2.3.5", api.ErrForeign}, {"1.2.3.4", "x.com", api.ErrForeign}, {"x.com", "1.2.3.4", api.ErrForeign}, {"[::1]", "[::2]", api.ErrForeign}, {"1.2.3.4", "[::102:304]", api.ErrForeign}, {"[::102:304]", "1.2.3.4", api.ErrForeign}, {"x.com", "[::1]", api.ErrForeign},
	} {
		for _, domain := range []string{one.domain, "." + one.domain, strings.ToUpper(one.domain)} {
			answers(t, "http://"+one.host, "a=b; Domain="+domain, one.want)
			answers(t, "https://"+strings.ToUpper(one.host)+":9/p/q?r", "a=b; Secure; Domain="+domain, one.want)
			if one.want != api.OK {
				for _, more := range []string{"; Secure", "; SameSite=None", "; Path=/"} {
					answers(t, "http://"+one.host, "__Host-a=b; Domain="+domain+more, one.want)
				}
			}
		}
	}
}

func TestSecure(t *testing.T) {
	for _, host := range []string{"x.com", "a.x.com", "localhost", "127.0.0.1", "[::1]"} {
		for _, name := range []string{"a=b", "a=", "b", "__Secure-a=b", "__Host-a=b"} {
			for _, more := range []string{"", "; Path=/", "; SameSite=None", "; SameSite=Strict; HttpOnly", "; Max-Age=0"} {
				answers(t, "http://"+host, name+"; Secure"+more, api.ErrSecure)
				answers(t, "http://"+host+":443", name+"; secure=no"+more, api.ErrSecure)
			}
		}
		answers(t, "https://"+host, "a=b; Secure", api.OK)
		answers(t, "https://"+host+":80", "a=b; Secure", api.OK)
		answers(t, "https://"+host, "a=b", api.OK)
		answers(t, "http://"+host, "a=b", api.OK)
	}
}

func TestCross(t *testing.T) {
	for _, scheme := range []string{"http", "https"} {
		for _, name := range []string{"a=b", "b", "__Secure-a=b", "__Host-a=b", "__Host-a=b; Path=/"} {
			answers(t, scheme+"://x.com", name+"; SameSite=None", api.ErrCross)
			answers(t, scheme+"://x.com", name+"; SameSite=Lax; samesite=NONE", api.ErrCross)
		}
		for _, same := range []string{"", "; SameSite=Lax", "; SameSite=Strict", "; SameSite=x", "; SameSite=None; SameSite=x", "; SameSite"} {
			answers(t, scheme+"://x.com", "a=b"+same, api.OK)
		}
	}
	answers(t, "https://x.com", "a=b; SameSite=None; Secure", api.OK)
	answers(t, "http://x.com", "a=b; SameSite=None; Secure", api.ErrSecure)
}

func TestSecurePrefix(t *testing.T) {
	for mask := range 1 << 9 {
		name := inLetters("__Secure-", mask)
		for _, pair := range []string{name + "a=b", name + "=b", name + "=", name + "=" + name, name + "a", "=" + name, "=" + name + "=b", name} {
			for _, scheme := range []string{"http", "https"} {
				answers(t, scheme+"://x.com", pair, api.ErrPrefix)
			}
			answers(t, "https://a.x.com/p/q", pair+"; Path=/; Domain=x.com", api.ErrPrefix)
			answers(t, "https://x.com", pair+"; Secure", api.OK)
			answers(t, "https://a.x.com", pair+"; Secure; Domain=x.com; Path=/x", api.OK)
		}
	}
}

func TestHostPrefix(t *testing.T) {
	for mask := range 1 << 7 {
		name := inLetters("__Host-", mask)
		for _, pair := range []string{name + "a=b", name + "=b", name + "=", name + "=" + name, name + "a", "=" + name, "=" + name + "=b", name} {
			for _, one := range []struct {
				u, more string
				want    api.Errno
			}{
				{"https://x.com", "; Secure; Path=/", api.OK},
				{"https://a.x.com/p/q", "; Secure; Path=/; HttpOnly; SameSite=None", api.OK},
				{"https://1.2.3.4", "; Secure; Path=/", api.OK},
				{"https://x.com", "; Secure; Path=/; Domain=", api.OK},
				{"https://x.com", "; Secure; Path=/a; Path=/", api.OK},
				// Of a public host a cookie is that host's alone, Domain or not.
				{"https://com", "; Secure; Path=/; Domain=com", api.OK},
				{"https://localhost", "; Secure; Path=/; Domain=.LOCALHOST", api.OK},
				{"https://x.com", "; Path=/", api.ErrPrefix},
				{"http://x.com", "; Path=/", api.ErrPrefix},
				{"https://x.com", "; Secure; Path=/; Domain=x.com", api.ErrPrefix},
				{"https://a.x.com", "; Secure; Path=/; Domain=x.com", api.ErrPrefix},
				{"https://1.2.3.4", "; Secure; Path=/; Domain=1.2.3.4", api.ErrPrefix},
				{"https://[::1]", "; Secure; Path=/; Domain=[::1]", api.ErrPrefix},
				{"https://www.ck", "; Secure; Path=/; Domain=www.ck", api.ErrPrefix},
				// It's the header that tells the path, not what comes without one.
				{"https://x.com", "; Secure", api.ErrPrefix},
				{"https://x.com/", "; Secure; Path=", api.ErrPrefix},
				{"https://x.com", "; Secure; Path=x", api.ErrPrefix},
				{"https://x.com", "; Secure; Path=/a", api.ErrPrefix},
				{"https://x.com", "; Secure; Path=//", api.ErrPrefix},
				{"https://x.com", "; Secure; Path=/; Path=/a", api.ErrPrefix},
				{"https://x.com", "", api.ErrPrefix},
			} {
				answers(t, one.u, pair+one.more, one.want)
			}
		}
	}
}

// A name's Prefix counts, a value's only where there is no name.
func TestWhosePrefix(t *testing.T) {
	for _, prefix := range []string{"__Secure-", "__Host-"} {
		answers(t, "http://x.com", "a="+prefix+"a", api.OK)
		answers(t, "http://x.com", "a="+prefix+"a=b", api.OK)
		answers(t, "http://x.com", "_="+prefix, api.OK)
		answers(t, "http://x.com", "a"+prefix+"=b", api.OK)
		answers(t, "http://x.com", "=a"+prefix, api.OK)
		answers(t, "http://x.com", prefix[:len(prefix)-1]+"=-a", api.OK)
		answers(t, "http://x.com", "=="+prefix, api.OK)
		answers(t, "http://x.com", " \t"+prefix+"\t=b", api.ErrPrefix)
		answers(t, "http://x.com", "= \t"+prefix+"\t", api.ErrPrefix)
		answers(t, "http://x.com", prefix+"a=__b", api.ErrPrefix)
	}
	answers(t, "https://x.com", "__Secure-a=__Host-b; Secure", api.OK)
	answers(t, "https://x.com", "__Host-a=__Secure-b; Secure", api.ErrPrefix)
	answers(t, "https://x.com", "=__Secure-a=__Host-b; Secure", api.OK)
}

func TestExamples(t *testing.T) {
	answers(t, "https://x.com", "__Host-a=b; Secure; Path=/", api.OK)
	answers(t, "https://x.com", "__Host-a=b; Secure; Path=/; Domain=x.com", api.ErrPrefix)
}

// P10.3

func TestTaken(t *testing.T) {
	isTaken(t, at(t, "https://a.x.com:8443/p/q/r?s"), says(t, "n=v; Domain=.X.com; Max-Age=7; Secure; HttpOnly; SameSite=None"), 100, api.Cookie{
		Name: "n", Value: "v", Host: read(t, "x.com"), Path: "/p/q", Secure: true, HttpOnly: true, Same: api.SameNone, Expires: 107, Born: 100, Used: 100,
	})
	isTaken(t, at(t, "http://a.x.com/p"), says(t, "n"), 0, api.Cookie{
		Value: "n", Host: read(t, "a.x.com"), Only: true, Path: "/", Expires: api.Never,
	})
}

func TestWhatTheHeaderSays(t *testing.T) {
	for text, change := range map[string]func(c *api.Cookie){
		"":                   func(c *api.Cookie) {},
		"; x=y; Version=1":   func(c *api.Cookie) {},
		"; Secure":           func(c *api.Cookie) { c.Secure = true },
		"; HttpOnly":         func(c *api.Cookie) { c.HttpOnly = true },
		"; SameSite=Lax":     func(c *api.Cookie) { c.Same = api.SameLax },
		"; SameSite=Strict":  func(c *api.Cookie) { c.Same = api.SameStrict },
		"; Path=/x":          func(c *api.Cookie) { c.Path = "/x" },
		"; Domain=x.com":     func(c *api.Cookie) { c.Host.Name, c.Only = "x.com", false },
		"; Max-Age=1":        func(c *api.Cookie) { c.Expires = noon + 1 },
		"; Secure; HttpOnly": func(c *api.Cookie) { c.Secure, c.HttpOnly = true, true },
		"; Secure; SameSite=None; Path=/; Domain=a.x.com; Max-Age=-1": func(c *api.Cookie) {
			*c = api.Cookie{Name: c.Name, Value: c.Value, Host: c.Host, Path: "/", Secure: true, Same: api.SameNone, Expires: noon, Born: noon, Used: noon}
		},
	} {
		for pair, names := range map[string][2]string{"a=b": {"a", "b"}, "a=": {"a", ""}, "=b": {"", "b"}, "b": {"", "b"}, " A b = c=d ": {"A b", "c=d"}, "\u00e4=\xff": {"\u00e4", "\xff"}, of(2048, "n") + "=" + of(2048, "v"): {of(2048, "n"), of(2048, "v")}} {
			want := api.Cookie{Name: names[0], Value: names[1], Host: read(t, "a.x.com"), Only: true, Path: "/p", Expires: api.Never, Born: noon, Used: noon}
			change(&want)
			isTaken(t, at(t, "https://a.x.com/p/q"), says(t, pair+text), noon, want)
		}
	}
}

func TestOwner(t *testing.T) {
	for _, one := range []struct {
		from, domain, owner string
		only                bool
	}{
		{"x.com", "", "x.com", true}, {"A.X.com", "", "a.x.com", true}, {"com", "", "com", true}, {"1.2.3.4", "", "1.2.3.4", true}, {"[::1]", "", "[::1]", true},
		{"x.com", ".", "x.com", true}, {"a.ck", "", "a.ck", true},
		{"x.com", "x.com", "x.com", false}, {"x.com", ".X.COM", "x.com", false}, {"a.x.com", "x.com", "x.com", false}, {"b.a.x.com", "a.x.com", "a.x.com", false}, {"b.a.x.com", "x.com", "x.com", false}, {"www.ck", "www.ck", "www.ck", false}, {"a.www.ck", "www.ck", "www.ck", false},
		// An address is not public.
		{"1.2.3.4", "1.2.3.4", "1.2.3.4", false}, {"1.2.3.4", ".1.2.3.4", "1.2.3.4", false}, {"[::1]", "[::1]", "[::1]", false}, {"[::a]", "[0:0::A]", "[::a]", false},
		{"com", "com", "com", true}, {"co.uk", ".co.uk", "co.uk", true}, {"a.ck", "A.ck", "a.ck", true}, {"ck", "ck", "ck", true}, {"localhost", "localhost", "localhost", true}, {"x.y.com", "x.y.com", "x.y.com", true}, {"x.y.com", "y.com", "y.com", false},
	} {
		text := "a=b"
		if one.domain != "" {
			text += "; Domain=" + one.domain
		}
		want := api.Cookie{Name: "a", Value: "b", Host: read(t, one.owner), Only: one.only, Path: "/", Expires: api.Never, Born: noon, Used: noon}
		isTaken(t, at(t, "http://"+one.from), says(t, text), noon, want)
	}
}

// The table tells what is public: without rules that are last labels alone.
func TestOwnerByTables(t *testing.T) {
	for _, one := range []struct {
		rules, domain string
		want          api.Errno
		only          bool
	}{
		{"", "a.co.uk", api.OK, false}, {"", "co.uk", api.OK, false}, {"", "uk", api.ErrPublic, false},
		{"co.uk", "co.uk", api.ErrPublic, false}, {"co.uk", "a.co.uk", api.OK, false},
		{"*.uk", "co.uk", api.ErrPublic, false}, {"*.uk\n!co.uk", "co.uk", api.OK, false},
		{"a.co.uk", "a.co.uk", api.OK, true}, {"*.co.uk", "a.co.uk", api.OK, true}, {"*.co.uk", "co.uk", api.OK, false},
	} {
		rules, _ := rule.File(one.rules)
		c, e := admit.Take(suffix.New(rules...), at(t, "http://a.co.uk"), says(t, "k; Domain="+one.domain), noon)
		if e != one.want || c.Only != one.only || e == api.OK && c.Host != read(t, one.domain) {
			t.Errorf("%q, Domain=%s: %v, %d", one.rules, one.domain, c, e)
		}
	}
}

func TestPath(t *testing.T) {
	for _, one := range [][3]string{
		{"/", "", "/"}, {"", "", "/"}, {"/a", "", "/"}, {"/a/", "", "/a"}, {"/a/b", "", "/a"}, {"/a/b/c?d/e", "", "/a/b"}, {"//", "", "/"}, {"/a//b", "", "/a/"},
		{"/a/b", "Path=", "/a"}, {"/a/b", "Path=x", "/a"}, {"/a/b", "Path", "/a"}, {"/a/b", "Path=/x; Path=", "/a"}, {"/" + of(2046, "a") + "/", "", "/" + of(2046, "a")},
		{"/a/b", "Path=/", "/"}, {"/a/b", "Path=/x", "/x"}, {"/a/b", "Path=/x/", "/x/"}, {"/a/b", "Path=/a/b/c", "/a/b/c"}, {"/", "Path=/x/y", "/x/y"},
		// A header's Path need be none that a URL can have.
		{"/a/b", "Path=/x y?z#\u00e4", "/x y?z#\u00e4"}, {"/a/b", "Path=//", "//"}, {"/a/b", "Path=/../x", "/../x"},
	} {
		if c := cookie(t, "https://x.com"+one[0], "a=b; "+one[1]); c.Path != one[2] {
			t.Errorf("%.60q, %q: %.60q, not %.60q", one[0], one[1], c.Path, one[2])
		}
	}
}

func TestExpires(t *testing.T) {
	last := int64(253402300799)
	for _, one := range []struct {
		now  int64
		text string
		want int64
	}{
		{0, "", api.Never}, {noon, "", api.Never}, {1 << 40, "", api.Never},
		{0, "Max-Age=0", 0}, {noon, "Max-Age=0", noon}, {noon, "Max-Age=-5", noon}, {noon, "Max-Age=1", noon + 1}, {0, "Max-Age=34560000", 34560000}, {noon, "Max-Age=34560000", noon + 34560000}, {noon, "Max-Age=99999999999", noon + 34560000}, {1 << 40, "Max-Age=34560000", 1<<40 + 34560000}, {1 << 40, "Max-Age=0", 1 << 40},
		{noon, "Max-Age=x", api.Never}, {noon, "Expires=never", api.Never},
		{noon, "Expires=1 jan 1970 0:0:0", 0}, {noon, "Expires=31 dec 1969 23:59:59", -1}, {noon, "Expires=1 jan 1601 0:0:0", -11644473600}, {noon, "Expires=1 jan 1970 0:16:39", 999}, {noon, "Expires=1 jan 1970 0:16:40", 1000}, {noon, "Expires=1 jan 1970 0:16:41", 1001},
		{0, "Expires=" + date.Text(34559999), 34559999}, {0, "Expires=" + date.Text(34560000), 34560000}, {0, "Expires=" + date.Text(34560001), 34560000},
		{noon, "Expires=" + date.Text(noon+34559999), noon + 34559999}, {noon, "Expires=" + date.Text(noon+34560000), noon + 34560000}, {noon, "Expires=" + date.Text(noon+34560001), noon + 34560000},
		{0, "Expires=" + date.Text(last), 34560000}, {noon, "Expires=" + date.Text(last), noon + 34560000}, {last - 34560000, "Expires=" + date.Text(last), last}, {last - 34560001, "Expires=" + date.Text(last), last - 1}, {1 << 40, "Expires=" + date.Text(last), last},
		// An age goes ahead of a date, wherever both stand.
		{noon, "Max-Age=9; Expires=1 jan 1970 0:0:5", noon + 9}, {noon, "Expires=1 jan 1970 0:0:5; Max-Age=9", noon + 9}, {noon, "Max-Age=0; Expires=" + date.Text(last), noon}, {noon, "Expires=1 jan 1970 0:0:5; Max-Age=x", 5}, {noon, "Max-Age=34560000; Expires=1 jan 1970 0:0:5", noon + 34560000},
	} {
		c, e := admit.Take(table(), at(t, "http://x.com"), says(t, "a=b; "+one.text), one.now)
		want := api.Cookie{Name: "a", Value: "b", Host: read(t, "x.com"), Only: true, Path: "/", Expires: one.want, Born: one.now, Used: one.now}
		if c != want || e != api.OK {
			t.Errorf("%q at %d: %v, %d, not %d", one.text, one.now, c, e, one.want)
		}
	}
}

// A second reading of the chapter

// promise says once more what P10.1 says.
func promise(name string) int {
	lower := strings.ToLower(name)
	switch {
	case strings.HasPrefix(lower, "__secure-"):
		return 1
	case strings.HasPrefix(lower, "__host-"):
		return 2
	}
	return 0
}

// expected says once more what P10.2 and P10.3 say: each error with what it is
// for, in their order, and the cookie that is taken if none of them is told.
func expected(x *suffix.Table, u api.URL, h api.Header, now int64) (api.Cookie, api.Errno) {
	d, code := host.Parse(h.Domain)
	told := h.Domain != ""
	own := !told || code == api.OK && x.Public(d)
	name := h.Name + map[bool]string{true: h.Value}[h.Name == ""]
	for _, fault := range []struct {
		code  api.Errno
		holds bool
	}{
		{api.ErrURL, !url.Right(u)},
		{api.ErrEmpty, !header.Right(h)},
		{api.ErrClock, now < 0 || now > 1<<40},
		{api.ErrDomain, told && code != api.OK},
		{api.ErrPublic, told && x.Public(d) && d != u.Host},
		{api.ErrForeign, told && !match.Domain(u.Host, d)},
		{api.ErrSecure, h.Secure && !u.Secure},
		{api.ErrCross, h.Same == 1 && !h.Secure},
		{api.ErrPrefix, promise(name) == 1 && !h.Secure},
		{api.ErrPrefix, promise(name) == 2 && !(h.Secure && own && h.Path == "/")},
	} {
		if fault.holds {
			return api.Cookie{}, fault.code
		}
	}
	c := api.Cookie{Name: h.Name, Value: h.Value, Host: u.Host, Only: own, Path: h.Path, Secure: h.Secure, HttpOnly: h.HttpOnly, Same: h.Same, Expires: math.MaxInt64, Born: now, Used: now}
	if !own {
		c.Host = d
	}
	if h.Path == "" {
		c.Path = match.Default(u.Path)
	}
	if h.HasExpires {
		c.Expires = slices.Min([]int64{h.Expires, now + 34560000})
	}
	if h.HasAge {
		c.Expires = now + h.Age
	}
	return c, api.OK
}

// headers of all kinds, some of them such as no text is.
func headers(t *testing.T) []api.Header {
	all := []api.Header{{}, {Name: "a", Value: "b", Same: 4}, {Name: "a", Domain: "X.com"}, {Value: "a", Age: 1}, {Name: "__Host-a", Path: "x"}}
	for _, pair := range []string{"a=b", "b", "__Secure-a=b", "__HOST-a=b", "=__host-a", "a=__Host-b"} {
		for _, domain := range []string{"", "; Domain=x.com", "; Domain=a.x.com", "; Domain=com", "; Domain=1.2.3.4", "; Domain=x..com", "; Domain=org"} {
			for _, path := range []string{"", "; Path=/", "; Path=/p"} {
				for _, safe := range []string{"", "; Secure", "; SameSite=None", "; Secure; SameSite=None; HttpOnly", "; SameSite=Strict"} {
					for _, end := range []string{"", "; Max-Age=9", "; Expires=1 jan 2020 0:0:0", "; Max-Age=0; Expires=1 jan 1970 0:0:0"} {
						all = append(all, says(t, pair+domain+path+safe+end))
					}
				}
			}
		}
	}
	return all
}

func TestAllKinds(t *testing.T) {
	x, all := table(), headers(t)
	met := map[api.Errno]int{}
	urls := []api.URL{{}, {Secure: true, Host: read(t, "x.com"), Port: 443}}
	for _, place := range []string{"x.com", "a.x.com/p/q", "com/p", "1.2.3.4:99", "[::1]/p/q/", "y.org"} {
		urls = append(urls, at(t, "http://"+place), at(t, "https://"+place))
	}
	for _, u := range urls {
		for _, h := range all {
			for _, now := range []int64{0, 1577836800 - 34560000, 1 << 40, -1, 1<<40 + 1} {
				want, code := expected(x, u, h, now)
				met[code]++
				if c, e := admit.Take(x, u, h, now); c != want || e != code {
					t.Errorf("Take(%v, %v, %d) = %v, %d, not %v, %d", u, h, now, c, e, want, code)
				}
			}
		}
	}
	for _, code := range []api.Errno{api.OK, api.ErrURL, api.ErrEmpty, api.ErrClock, api.ErrDomain, api.ErrPublic, api.ErrForeign, api.ErrSecure, api.ErrCross, api.ErrPrefix} {
		if met[code] < 100 {
			t.Errorf("%d is told %d times", code, met[code])
		}
	}
}

// P1, P2

// A taken cookie goes with a request of its own URL, as long as it lasts, if
// its path is there.
func TestTakenAreSent(t *testing.T) {
	sent := 0
	for _, h := range headers(t) {
		for _, text := range []string{"https://x.com/p/q", "http://a.x.com/p/q", "https://1.2.3.4/p/q", "http://com/p/q"} {
			u := at(t, text)
			c, e := admit.Take(table(), u, h, noon)
			if e != api.OK {
				continue
			}
			got := match.Sends(c, api.Request{Secure: u.Secure, Host: u.Host, Path: u.Path}, noon)
			if got != (c.Expires > noon) {
				t.Errorf("Sends(%v) = %v", c, got)
			}
			sent++
		}
	}
	if sent < 500 {
		t.Errorf("%d are taken", sent)
	}
}

// One table answers many asks, as it did at first.
func TestAnswersHangOnArgumentsAlone(t *testing.T) {
	x := table()
	own, other := at(t, "https://a.x.com/p/q"), at(t, "http://com")
	all := sample.Texts(4, "__Host-", "a", "=", "; Secure", "; Domain=x.com", "; Path=/", ";Max-Age=5", "; Domain=com")
	written := func(s string) string {
		h, _ := header.Parse(s)
		c, e := admit.Take(x, own, h, int64(len(s)))
		d, f := admit.Take(x, other, h, -int64(len(s)%2))
		return fmt.Sprint(c, e, d, f, admit.Prefix(s), x.Site(own.Host), x.Public(other.Host))
	}
	for _, s := range sample.Unsteady(all, written) {
		t.Errorf("%q: two answers", s)
	}
}

func TestGreatTexts(t *testing.T) {
	const size = 1 << 24
	for _, unit := range []string{"a", "/", ";", "=", ".", "a.", "1.", "__Host-", "\xff", "\x00", " "} {
		s := of(size/len(unit), unit)
		isPrefix(t, s, map[string]int{"__Host-": 2}[unit])
		isPrefix(t, "__Secure-"+s, 1)
		u, h := at(t, "https://x.com"), api.Header{Name: "a", Value: "b"}
		for _, field := range []*string{&h.Name, &h.Value, &h.Domain, &h.Path} {
			before := *field
			*field = s
			isRefused(t, u, h, noon, api.ErrEmpty)
			*field = before
		}
		for _, field := range []*string{&u.Path, &u.Host.Name} {
			before := *field
			*field = s
			isRefused(t, u, h, noon, api.ErrURL)
			*field = before
		}
	}
}

// Of any numbers a call still answers.
func TestAnyNumbers(t *testing.T) {
	numbers := []int64{0, 1, -1, 2, 3, 4, 443, 65536, api.MaxAge, 1 << 40, math.MaxInt64, math.MinInt64}
	x, u, h := table(), at(t, "https://x.com"), says(t, "a=b")
	for _, n := range numbers {
		for _, m := range numbers {
			for kind := range 8 {
				v, g := u, h
				v.Host.Kind, v.Port = int(n), int(m)
				g.HasAge, g.Age, g.HasExpires, g.Expires, g.Same = kind&1 > 0, n, kind&2 > 0, m, int(n)
				for _, now := range numbers {
					for _, to := range []api.URL{u, v} {
						want, code := expected(x, to, g, now)
						if c, e := admit.Take(x, to, g, now); c != want || e != code {
							t.Errorf("Take(%v, %v, %d) = %v, %d", to, g, now, c, e)
						}
					}
				}
			}
		}
	}
}
