package host_test

import (
	"fmt"
	"net/netip"
	"regexp"
	"strings"
	"testing"

	"cracknel/addr"
	"cracknel/api"
	"cracknel/host"
	"cracknel/sample"
)

func named(name string) api.Host {
	return api.Host{Kind: api.HostName, Name: name}
}

func four(a, b, c, d byte) api.Host {
	return api.Host{Kind: api.HostV4, Addr: api.Addr{12: a, 13: b, 14: c, 15: d}}
}

func six(g ...uint16) api.Host {
	var all [8]uint16
	copy(all[:], g)
	return api.Host{Kind: api.HostV6, Addr: addr.From(all)}
}

func is(t *testing.T, s string, want api.Host) {
	t.Helper()
	if h, e := host.Parse(s); h != want || e != api.OK {
		t.Errorf("Parse(%.80q) = %v, %d, not %v", s, h, e, want)
	}
	if !host.Right(want) {
		t.Errorf("Right(%v) is false", want)
	}
}

func isNone(t *testing.T, s string) {
	t.Helper()
	if h, e := host.Parse(s); h != (api.Host{}) || e != api.ErrHost {
		t.Errorf("Parse(%.80q) = %v, %d", s, h, e)
	}
}

// nameOf has so many bytes, in labels that aren't too long.
func nameOf(size int) string {
	s := strings.Repeat("a", size)
	for at := 50; at < size-1; at += 51 {
		s = s[:at] + "." + s[at+1:]
	}
	return s
}

// P3.1

func TestNames(t *testing.T) {
	for _, s := range []string{
		"a", "localhost", "example.com", "a.b.example.com", "x.y.z", "_dmarc.example.com", "a-b.c_d", "-", "_", "-.-", "_._", "a-.-a._b.b_", "--", "xn--bcher-kva.example",
		"5.a", "1.2.3.a", "1.2.3.4a", "1.2.3.a4", "1.2.3.4-", "1.2.3.-4", "1.2.3._", "0.0.0.0.a", "00.a", "256.256.256.256.com", "999999999999999999999.a", "1a", "0x1", "1.0x1", "1.2.3.0x4", "1-1", "1_1",
		"a1.b2.c3d", "abcdefghijklmnopqrstuvwxyz.0123456789-_",
	} {
		is(t, s, named(s))
		is(t, strings.ToUpper(s), named(s))
	}
	is(t, "A.Example.com", named("a.example.com"))
	is(t, "ABCDEFGHIJKLMNOPQRSTUVWXYZ.Com", named("abcdefghijklmnopqrstuvwxyz.com"))
	is(t, "LocalHost", named("localhost"))
}

func TestLongLabels(t *testing.T) {
	for _, part := range []string{"a", "Z", "0", "-", "_"} {
		for size := 1; size < 130; size++ {
			label := strings.Repeat(part, size)
			for _, s := range []string{label + ".a", "b." + label + ".a", "b." + label + "a", label + "a"} {
				long := false
				for _, piece := range strings.Split(s, ".") {
					long = long || len(piece) > 63
				}
				if long {
					isNone(t, s)
				} else {
					is(t, s, named(strings.ToLower(s)))
				}
			}
		}
	}
	is(t, strings.Repeat("a", 63), named(strings.Repeat("a", 63)))
	isNone(t, strings.Repeat("a", 64))
	is(t, "b."+strings.Repeat("0", 63)+".a", named("b."+strings.Repeat("0", 63)+".a"))
	isNone(t, "b."+strings.Repeat("0", 64)+".a")
	isNone(t, "b."+strings.Repeat("0", 63))
}

func TestLongNames(t *testing.T) {
	for size := 1; size < 600; size++ {
		s := nameOf(size)
		if len(s) != size {
			t.Fatal(size, s)
		}
		if size > 253 {
			isNone(t, s)
			isNone(t, strings.ToUpper(s))
			continue
		}
		is(t, s, named(s))
		is(t, strings.ToUpper(s), named(s))
	}
	is(t, strings.Repeat("a.", 126)+"b", named(strings.Repeat("a.", 126)+"b"))
	isNone(t, strings.Repeat("a.", 126)+"bc")
	isNone(t, strings.Repeat("a.", 127)+"b")
}

func TestAddressesOfNumbers(t *testing.T) {
	is(t, "1.2.3.4", four(1, 2, 3, 4))
	is(t, "0.0.0.0", four(0, 0, 0, 0))
	is(t, "255.255.255.255", four(255, 255, 255, 255))
	is(t, "192.0.2.1", four(192, 0, 2, 1))
	// The last label is digits alone, and the text no address.
	for _, s := range []string{
		"1", "0", "1.2", "1.2.3", "1.2.3.4.5", "a.1", "a.b.c.1", "a.0", "1.2.3.256", "256.2.3.4", "01.2.3.4", "1.2.3.04", "1.2.3.00", "1.a.3.4", "a.2.3.4", ".1", "..1", "1..2", ".1.2.3.4", "1.2.3.4.0",
		"-.1", "_.0", "a.00", "a.007", "1.2.3.999999999999999999999999", "a." + strings.Repeat("9", 63), strings.Repeat("1.", 126) + "1", strings.Repeat("0", 64),
		"0x1.2.3.4", "1.2.3.+4", " 1.2.3.4", "[.1", "[::1].1",
	} {
		isNone(t, s)
	}
}

func TestAddressesOfGroups(t *testing.T) {
	is(t, "[::]", six())
	is(t, "[::1]", six(0, 0, 0, 0, 0, 0, 0, 1))
	is(t, "[::A]", six(0, 0, 0, 0, 0, 0, 0, 10))
	is(t, "[::a]", six(0, 0, 0, 0, 0, 0, 0, 10))
	is(t, "[1::]", six(1))
	is(t, "[1:2:3:4:5:6:7:8]", six(1, 2, 3, 4, 5, 6, 7, 8))
	is(t, "[2001:DB8:0:0:1:0:0:1]", six(0x2001, 0xdb8, 0, 0, 1, 0, 0, 1))
	is(t, "[2001:db8::1:0:0:1]", six(0x2001, 0xdb8, 0, 0, 1, 0, 0, 1))
	is(t, "[0000:0000:0000:0000:0000:0000:0000:0000]", six())
	is(t, "[FFFF:ffff:FFFF:ffff:FFFF:ffff:FFFF:ffff]", six(0xffff, 0xffff, 0xffff, 0xffff, 0xffff, 0xffff, 0xffff, 0xffff))
	for _, s := range []string{
		"[", "]", "[]", "][", "[[", "]]", "[[]]", "[]]", "[[]", "[[::1]]", "[::1]]", "[[::1]", "[::1", "::1]", "::1", "::", "1:2:3:4:5:6:7:8",
		"[::1].", "[::1]a", "[::1]:80", "[::1] ", " [::1]", "[ ::1]", "[::1 ]", "[::1]\n", "[::1]\x00", "a[::1]", ".[::1]", "[::1]]1", "[::1}", "{::1]", "(::1)", "[::1\\", "[::1[", "]::1[", "]::1]",
		"[1.2.3.4]", "[::1.2.3.4]", "[::ffff:1.2.3.4]", "[a]", "[a.b]", "[1]", "[:]", "[:::]", "[1:2:3:4:5:6:7]", "[1:2:3:4:5:6:7:8:9]", "[::g]", "[::12345]", "[::1%1]", "[::1%25eth0]", "[v1.a]", "[::1][::1]", "[::1]::1]",
		"[::" + strings.Repeat("0", 300) + "]", "[" + strings.Repeat("0:", 300) + "]",
	} {
		isNone(t, s)
	}
}

func TestNoHosts(t *testing.T) {
	for _, s := range []string{
		"", ".", "..", "...", ".a", "a.", "a..b", "..a", "a..", ".a.", "a.b.", ".a.b", "a..b.c", "1.2.3.4.", "-.", "._", ". ",
		" ", "  ", "\t", "\n", "\r", "\x00", " a", "a ", "a b", "a. b", "a .b", "a.b ", "\ta", "a\t", "a\n", "a.b\r\n", "\na.b", "a\x00", "a.\x00",
		"a/b", "a.b/", "a:80", "a.b:443", "//a", "http://a", "a@b", "a,b", "a;b", "a+b", "a=b", "a*b", "*", "*.com", "!a", "a!", "a%20b", "a'b", "a\"b", "a~b", "(a)", "a\\b", "a|b", "a`b", "a^b", "{a}", "a#b", "a?b", "a&b", "$a", "<a>",
		"a[", "a]", "a.b]", "a\x7f", "\x7f", "a\x80", "\xff", "a\xc3.b", "bücher.example", "Ä.com", "ſ.com", "\u212a.com", "a。b", "a.１", "a.٤", "１.2.3.4", "a\u00ad", "\u200b",
	} {
		isNone(t, s)
	}
}

// Of all bytes: which ones can be of a label, and what becomes of them.
func TestEachByte(t *testing.T) {
	for c := range 256 {
		s := string([]byte{byte(c)})
		if !regexp.MustCompile(`^[A-Za-z0-9_-]$`).MatchString(s) {
			for _, text := range []string{"a" + s + "a.b", "a." + s + "ab", "a.b" + s} {
				if s != "." {
					isNone(t, text)
				}
			}
			isNone(t, s)
			isNone(t, s+".a")
			isNone(t, "a."+s)
			continue
		}
		low := strings.ToLower(s)
		is(t, s+".a", named(low+".a"))
		is(t, "a"+s+"a.b", named("a"+low+"a.b"))
		is(t, "a."+s+"b", named("a."+low+"b"))
		is(t, "a.b"+s, named("a.b"+low))
		if c >= '0' && c <= '9' {
			isNone(t, s)
			isNone(t, "a."+s)
		} else {
			is(t, s, named(low))
			is(t, "a."+s, named("a."+low))
		}
	}
}

var (
	names  = regexp.MustCompile(`^(?:[A-Za-z0-9_-]{1,63}\.)*[A-Za-z0-9_-]{1,63}$`)
	digits = regexp.MustCompile(`^(?:.*\.)?[0-9]+$`)
)

// parsed says once more what the chapter says, with the library's means.
func parsed(s string) (api.Host, bool) {
	if s != "" && s[0] == '[' {
		if s[len(s)-1] != ']' {
			return api.Host{}, false
		}
		a, err := netip.ParseAddr(s[1 : len(s)-1])
		if err != nil || !a.Is6() || a.Zone() != "" || strings.Contains(s, ".") {
			return api.Host{}, false
		}
		return api.Host{Kind: 3, Addr: api.Addr(a.As16())}, true
	}
	if digits.MatchString(s) {
		a, err := netip.ParseAddr(s)
		if err != nil || !a.Is4() {
			return api.Host{}, false
		}
		b := a.As4()
		return four(b[0], b[1], b[2], b[3]), true
	}
	if len(s) > 253 || !names.MatchString(s) {
		return api.Host{}, false
	}
	return named(strings.ToLower(s)), true
}

func manyTexts() []string {
	all := sample.Texts(7, ".", "a", "1", "B-", "_")
	all = append(all, sample.Texts(7, "[", "]", "::", "1", "a")...)
	all = append(all, sample.Texts(4, "[", "]", ":", ".", "1.2.3", "Z", " ", "é", "255", "1:2:3:4:5:6:7", "0")...)
	for _, s := range sample.Texts(4, "a.", "B", strings.Repeat("c", 31), strings.Repeat("D.", 55), strings.Repeat("e", 62)+".", "4") {
		all = append(all, s, s+"f")
	}
	return all
}

func TestManyTexts(t *testing.T) {
	for _, s := range manyTexts() {
		want, ok := parsed(s)
		if !ok {
			isNone(t, s)
			continue
		}
		is(t, s, want)
		again := host.Text(want)
		is(t, again, want)
	}
}

// P3.2

func TestText(t *testing.T) {
	for _, one := range []struct {
		want string
		h    api.Host
	}{
		{"a.example.com", named("a.example.com")},
		{"", named("")},
		{"A b\xff..", named("A b\xff..")},
		{"[::1]", named("[::1]")},
		{"1.2.3.4", four(1, 2, 3, 4)},
		{"0.0.0.0", api.Host{Kind: 2}},
		{"1.2.3.4", api.Host{Kind: 2, Name: "x", Addr: api.Addr{0: 9, 12: 1, 13: 2, 14: 3, 15: 4}}},
		{"[::]", six()},
		{"[::]", api.Host{Kind: 3, Name: "x"}},
		{"[2001:db8::1:0:0:1]", six(0x2001, 0xdb8, 0, 0, 1, 0, 0, 1)},
		{"[::abc]", six(0, 0, 0, 0, 0, 0, 0, 0xabc)},
		{"a", api.Host{Kind: 1, Name: "a", Addr: api.Addr{15: 1}}},
	} {
		if got := host.Text(one.h); got != one.want {
			t.Errorf("Text(%v) = %q, not %q", one.h, got, one.want)
		}
	}
	for _, kind := range []int{0, 4, 5, -1, -2, 100, 257, 258, 1<<32 + 1, 1<<32 + 2, 1<<63 - 1, -1 << 63} {
		if got := host.Text(api.Host{Kind: kind, Name: "a", Addr: api.Addr{15: 1}}); got != "" {
			t.Errorf("Text of Kind %d = %q", kind, got)
		}
	}
}

// wrong answers hosts that Parse never answers.
func wrong() []api.Host {
	all := []api.Host{
		{}, named(""), named("."), named("A"), named("a.B"), named("a."), named(".a"), named("a..b"), named("a b"), named(" a"), named("a\n"), named("\xff"), named("ä"),
		named("1"), named("a.1"), named("1.2.3.4"), named("1.2.3"), named("[::1]"), named("[]"), named("::1"),
		named(strings.Repeat("a", 64)), named(nameOf(254)), named("b." + strings.Repeat("a", 64)),
		{Kind: 1, Name: "a", Addr: api.Addr{15: 1}}, {Kind: 1, Name: "a.b", Addr: api.Addr{0: 1}}, {Kind: 1, Addr: api.Addr{15: 1}},
		{Kind: 1, Name: "1.2.3.4", Addr: api.Addr{12: 1, 13: 2, 14: 3, 15: 4}}, {Kind: 1, Name: "[::1]", Addr: api.Addr{15: 1}},
		{Kind: 2, Name: "a"}, {Kind: 2, Name: "a.b", Addr: api.Addr{15: 1}}, {Kind: 2, Name: "0.0.0.0"}, {Kind: 2, Name: "0.0.0.1", Addr: api.Addr{15: 1}},
		{Kind: 3, Name: "a"}, {Kind: 3, Name: "[::]"}, {Kind: 3, Name: "::1", Addr: api.Addr{15: 1}},
	}
	for i := range 12 {
		h := four(1, 2, 3, 4)
		h.Addr[i] = 1
		all = append(all, h)
	}
	for _, kind := range []int{0, 4, -1, 1<<32 + 1, 1<<32 + 2, 1<<63 - 1, -1 << 63} {
		all = append(all, api.Host{Kind: kind}, api.Host{Kind: kind, Name: "a"}, api.Host{Kind: kind, Name: "a.b.c"}, api.Host{Kind: kind, Addr: api.Addr{15: 1}}, api.Host{Kind: kind, Name: "1.2.3.4", Addr: api.Addr{12: 1, 13: 2, 14: 3, 15: 4}})
	}
	return all
}

func TestWrongHosts(t *testing.T) {
	right := named("a.b.c")
	for _, h := range wrong() {
		if host.Right(h) {
			t.Errorf("Right(%v)", h)
		}
		if l := host.Labels(h); len(l) != 0 {
			t.Errorf("Labels(%v) = %q", h, l)
		}
		for n := -2; n < 6; n++ {
			if tail, ok := host.Tail(h, n); ok || tail != (api.Host{}) {
				t.Errorf("Tail(%v, %d) = %v, %v", h, n, tail, ok)
			}
		}
		if host.Under(h, right) || host.Under(right, h) || host.Under(h, h) || host.Under(h, named("a")) || host.Under(h, named("b")) || host.Under(named("x.a"), h) {
			t.Errorf("Under of %v", h)
		}
	}
}

func TestRight(t *testing.T) {
	for _, h := range []api.Host{
		named("a"), named("localhost"), named("a.b"), named("1.a"), named("-"), named("_.-"), named(nameOf(253)), named(strings.Repeat("a", 63)),
		four(0, 0, 0, 0), four(1, 2, 3, 4), four(255, 255, 255, 255), {Kind: 2}, {Kind: 3},
		six(), six(0xffff, 1), {Kind: 3, Addr: api.Addr{0: 255, 12: 1, 15: 9}}, {Kind: 3, Addr: api.Addr{15: 1}}, {Kind: 2, Addr: api.Addr{15: 1}},
	} {
		if !host.Right(h) {
			t.Errorf("Right(%v) is false", h)
		}
	}
}

func TestLabels(t *testing.T) {
	for _, s := range []string{"a", "localhost", "a.b", "a.b.example.com", "1.2.3.a", "a.a.a.a", "-._.-", nameOf(253), strings.TrimSuffix(strings.Repeat("a.", 127), ".")} {
		got := host.Labels(named(s))
		if strings.Join(got, ".") != s || len(got) != strings.Count(s, ".")+1 {
			t.Errorf("Labels of %q = %q", s, got)
		}
	}
	for _, h := range []api.Host{{}, four(1, 2, 3, 4), four(0, 0, 0, 0), six(), six(1, 2, 3, 4, 5, 6, 7, 8)} {
		if got := host.Labels(h); len(got) != 0 {
			t.Errorf("Labels(%v) = %q", h, got)
		}
	}
}

// P3.3

func TestTail(t *testing.T) {
	h := named("a.b.example.com")
	for n, want := range map[int]string{1: "com", 2: "example.com", 3: "b.example.com", 4: "a.b.example.com"} {
		if tail, ok := host.Tail(h, n); !ok || tail != named(want) {
			t.Errorf("Tail(%v, %d) = %v, %v", h, n, tail, ok)
		}
	}
	if tail, ok := host.Tail(named("com"), 1); !ok || tail != named("com") {
		t.Errorf("Tail of one label: %v, %v", tail, ok)
	}
	if tail, ok := host.Tail(named("1.2.3.a"), 3); !ok || tail != named("2.3.a") {
		t.Errorf("Tail of digits: %v, %v", tail, ok)
	}
	long := strings.TrimSuffix(strings.Repeat("a.", 127), ".")
	for n := 1; n <= 127; n++ {
		if tail, ok := host.Tail(named(long), n); !ok || tail != named(long[len(long)-2*n+1:]) {
			t.Errorf("Tail of 127 labels, %d: %v, %v", n, tail, ok)
		}
	}
}

func TestNoTail(t *testing.T) {
	for _, n := range []int{0, -1, -2, -4, 5, 6, 100, 1<<32 + 1, 1<<63 - 1, -1 << 63, -1<<63 + 1} {
		if tail, ok := host.Tail(named("a.b.example.com"), n); ok || tail != (api.Host{}) {
			t.Errorf("Tail(_, %d) = %v, %v", n, tail, ok)
		}
	}
	for _, h := range []api.Host{four(1, 2, 3, 4), six(1, 2, 3, 4), {}, named("a.1"), named("a.B")} {
		for n := -1; n < 10; n++ {
			if tail, ok := host.Tail(h, n); ok || tail != (api.Host{}) {
				t.Errorf("Tail(%v, %d) = %v, %v", h, n, tail, ok)
			}
		}
	}
}

func TestUnder(t *testing.T) {
	for _, one := range []struct {
		h, d string
		want bool
	}{
		{"a.example.com", "example.com", true},
		{"a.example.com", "com", true},
		{"a.b.c.d", "b.c.d", true},
		{"a.b.c.d", "d", true},
		{"a.a", "a", true},
		{"a.a.a", "a.a", true},
		{"1.a", "a", true},
		{"-.a", "a", true},
		{"example.com", "example.com", false},
		{"com", "com", false},
		{"example.com", "a.example.com", false},
		{"com", "example.com", false},
		{"bexample.com", "example.com", false},
		{"b-example.com", "example.com", false},
		{"a.bexample.com", "example.com", false},
		{"aa", "a", false},
		{"a.example.com", "example.org", false},
		{"a.example.com", "example", false},
		{"a.example.com", "a", false},
		{"a.example.com", "a.example", false},
		{"a.example.com", "b.example.com", false},
		{"a.example.com", "m", false},
		{"a.example.com", "xample.com", false},
		{"a.example.com.x", "example.com", false},
	} {
		if got := host.Under(named(one.h), named(one.d)); got != one.want {
			t.Errorf("Under(%q, %q) = %v", one.h, one.d, got)
		}
	}
}

func TestUnderOfAddresses(t *testing.T) {
	all := []api.Host{{}, four(1, 2, 3, 4), four(0, 0, 0, 0), four(2, 3, 4, 5), six(), six(1), named("a"), named("1.2.3.4"), named("3.4"), named(""), named("[::1]"),
		{Kind: 1, Name: "a", Addr: api.Addr{15: 1}}, {Kind: 1, Name: "b.a", Addr: api.Addr{15: 1}}, named("B.a"), named("A"), named(".a"), named("b..a")}
	for _, h := range all {
		for _, d := range all {
			if host.Under(h, d) {
				t.Errorf("Under(%v, %v)", h, d)
			}
		}
	}
}

// Of all pairs of short names: a name is below another one, if the other one
// with a point ahead of it is its end.
func TestUnderOfManyNames(t *testing.T) {
	all := sample.Texts(5, ".", "a", "B", "1", "b")
	for _, s := range all {
		_, e := host.Parse(s)
		sRight := e == api.OK && s == strings.ToLower(s) && !digits.MatchString(s)
		for _, end := range sample.Texts(3, ".", "a", "1", "b") {
			_, e := host.Parse(end)
			right := sRight && e == api.OK && !digits.MatchString(end)
			want := right && strings.HasSuffix(s, "."+end)
			if got := host.Under(named(s), named(end)); got != want {
				t.Errorf("Under(%q, %q) = %v", s, end, got)
			}
		}
	}
}

// Each tail of a name is right, and the name is below all of them but itself.
func TestTailsOfManyNames(t *testing.T) {
	for _, s := range sample.Texts(6, ".", "a", "1", "-", "b") {
		h, e := host.Parse(s)
		if e != api.OK || h.Kind != api.HostName {
			continue
		}
		labels := host.Labels(h)
		if strings.Join(labels, ".") != s {
			t.Errorf("Labels of %q = %q", s, labels)
		}
		for n := range labels {
			tail, ok := host.Tail(h, n+1)
			want := named(strings.Join(labels[len(labels)-n-1:], "."))
			if !ok || tail != want || !host.Right(tail) {
				t.Errorf("Tail(%q, %d) = %v, %v", s, n+1, tail, ok)
			}
			if host.Under(h, tail) != (n+1 < len(labels)) || host.Under(tail, h) {
				t.Errorf("Under(%q, %q)", s, tail.Name)
			}
		}
	}
}

// P1, P2

// answers writes down what all calls say of a text, and of the hosts that it
// may be.
func answers(s string) string {
	h, e := host.Parse(s)
	all := fmt.Sprint(h, e)
	for _, one := range []api.Host{h, named(s), {Kind: 2, Name: s}, {Kind: len(s), Name: s}} {
		tail, ok := host.Tail(one, 2)
		all += fmt.Sprintf("%q %v %q %v %v %v", host.Text(one), host.Right(one), host.Labels(one), tail, ok, host.Under(one, tail))
	}
	return all
}

func TestAnswersHangOnArgumentsAlone(t *testing.T) {
	all := sample.Texts(5, "[", "::", "]", ".", "1", "aB", "1.2.3", "\xff")
	for _, s := range sample.Unsteady(all, answers) {
		t.Errorf("%q: two answers", s)
	}
}

func TestLabelsAreNewMemory(t *testing.T) {
	h := named("a.b.example.com")
	one, other := host.Labels(h), host.Labels(h)
	spare := other[:cap(other)]
	for i := range one[:cap(one)] {
		one[:cap(one)][i] = "x"
	}
	for _, label := range spare {
		if label == "x" {
			t.Errorf("Labels shared: %q", spare)
		}
	}
	if got := strings.Join(host.Labels(h), "."); got != h.Name || strings.Join(other, ".") != h.Name {
		t.Errorf("Labels changed: %q, %q", got, other)
	}
}

func TestGreatTexts(t *testing.T) {
	const size = 1 << 24
	for _, s := range []string{
		strings.Repeat("a", size), strings.Repeat(".", size), strings.Repeat("1", size), strings.Repeat("1.", size/2), strings.Repeat("a.", size/2) + "1",
		"[" + strings.Repeat("::", size/2) + "]", "[" + strings.Repeat("0:", size/2) + "0]", strings.Repeat("[", size), strings.Repeat("\xff", size),
	} {
		isNone(t, s)
		h := named(s)
		tail, ok := host.Tail(h, size/2)
		if host.Text(h) != s || host.Right(h) || len(host.Labels(h)) != 0 || ok || tail != (api.Host{}) || host.Under(h, h) || host.Under(h, named("a")) {
			t.Errorf("a text of %d bytes, %.20q", len(s), s)
		}
	}
}
