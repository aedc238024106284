package url_test

import (
	"fmt"
	"regexp"
	"strconv"
	"strings"
	"testing"

	"cracknel/api"
	"cracknel/host"
	"cracknel/sample"
	"cracknel/url"
)

// longHost has just as many bytes as a name may have.
var longHost = strings.Repeat("a.", 126) + "b"

// hosts are of all three kinds, as Text writes them.
var hosts = []string{"a", "localhost", "a.example.com", "_dmarc.x-y.com", "1.2.3.a", longHost, "1.2.3.4", "0.0.0.0", "255.255.255.255", "[::]", "[::1]", "[2001:db8::1:0:0:1]", "[1:2:3:4:5:6:7:8]"}

func hostOf(t *testing.T, s string) api.Host {
	t.Helper()
	h, e := host.Parse(s)
	if e != api.OK {
		t.Fatalf("no host: %q", s)
	}
	return h
}

// pathOf has so many bytes.
func pathOf(size int) string { return "/" + strings.Repeat("x", size-1) }

func is(t *testing.T, s string, want api.URL) {
	t.Helper()
	if u, e := url.Parse(s); u != want || e != api.OK {
		t.Errorf("Parse(%.80q) = %v, %d, not %v", s, u, e, want)
	}
	if !url.Right(want) {
		t.Errorf("Right(%v) is false", want)
	}
}

func isNone(t *testing.T, s string, want api.Errno) {
	t.Helper()
	if u, e := url.Parse(s); u != (api.URL{}) || e != want {
		t.Errorf("Parse(%.80q) = %.200s, %d, not %d", s, fmt.Sprint(u), e, want)
	}
}

func isWritten(t *testing.T, u api.URL, want string) {
	t.Helper()
	if got := url.Text(u); got != want {
		t.Errorf("Text(%v) = %.80q, not %.80q", u, got, want)
	}
	is(t, want, u)
}

// P4.1

// eachByte calls f with all bytes, and whether a path may have them behind its
// first one.
func eachByte(f func(c string, ofPath bool)) {
	for c := range 256 {
		f(string([]byte{byte(c)}), c >= 33 && c <= 126 && c != '?' && c != '#')
	}
}

func TestPath(t *testing.T) {
	for _, s := range []string{
		"/", "//", "///", "/a", "/a/", "/a/b", "//a", "/a//b", "/.", "/..", "/a/../b", "/%", "/%20", "/%zz", "/!", "/~", "/a~!", "/:", "/:80", "/[::1]", "/\"<>\\^`{|}", "/a=b;c,d&e+f@g", "/$'()*-_", "/A/0",
		pathOf(2047), pathOf(2048), strings.Repeat("/", 2048), "/" + strings.Repeat("~", 2047),
	} {
		if !url.Path(s) {
			t.Errorf("Path(%.60q) is false", s)
		}
	}
	for _, s := range []string{
		"", "a", "a/", "a/b", ".", "./a", "../a", "%2F", "\\", "\\a", "!/", "~/", "http://a/", "[/]",
		" ", " /", "/ ", "/a b", "\t/", "/\t", "/a\n", "/\r\n", "/\x00", "/a\x00b", "/\x7f", "/\x80", "/\xff", "\xff/", "/ä", "/a\u00a0", "／", "∕",
		"?", "#", "/?", "/#", "/a?", "/a#", "/a?b", "/a#b", "?/", "#/", "/?/", "/#/", "/a/?/b", "/??", "/##",
		pathOf(2049), pathOf(2050), pathOf(4096), strings.Repeat("/", 2049), strings.Repeat("x", 2048), pathOf(2047) + "?", pathOf(2047) + " ", pathOf(1 << 16),
	} {
		if url.Path(s) {
			t.Errorf("Path(%.60q)", s)
		}
	}
}

func TestPathOfEachByte(t *testing.T) {
	eachByte(func(c string, ofPath bool) {
		for _, s := range []string{"/" + c, "/a" + c, "/" + c + "b", "/a" + c + "/b", pathOf(2047) + c} {
			if url.Path(s) != ofPath {
				t.Errorf("Path(%.20q) isn't %v", s, ofPath)
			}
		}
		for _, s := range []string{c, c + "/", c + "a"} {
			if url.Path(s) != (c == "/") {
				t.Errorf("Path(%q) isn't %v", s, c == "/")
			}
		}
		if url.Path(pathOf(2048) + c) {
			t.Errorf("Path of 2049 bytes, with %q", c)
		}
	})
}

func TestPathOfEachSize(t *testing.T) {
	for size := 1; size < 2200; size++ {
		want := size <= 2048
		if url.Path(pathOf(size)) != want {
			t.Errorf("Path of %d bytes isn't %v", size, want)
		}
	}
}

func TestText(t *testing.T) {
	for _, text := range hosts {
		h := hostOf(t, text)
		for _, path := range []string{"/", "//", "/a", "/a/b/", "/!~", "/:80", pathOf(2048)} {
			isWritten(t, api.URL{Host: h, Port: 80, Path: path}, "http://"+text+path)
			isWritten(t, api.URL{Host: h, Port: 443, Path: path}, "http://"+text+":443"+path)
			isWritten(t, api.URL{Host: h, Port: 8080, Path: path}, "http://"+text+":8080"+path)
			isWritten(t, api.URL{Host: h, Port: 1, Path: path}, "http://"+text+":1"+path)
			isWritten(t, api.URL{Host: h, Port: 65535, Path: path}, "http://"+text+":65535"+path)
			isWritten(t, api.URL{Secure: true, Host: h, Port: 443, Path: path}, "https://"+text+path)
			isWritten(t, api.URL{Secure: true, Host: h, Port: 80, Path: path}, "https://"+text+":80"+path)
			isWritten(t, api.URL{Secure: true, Host: h, Port: 8443, Path: path}, "https://"+text+":8443"+path)
			isWritten(t, api.URL{Secure: true, Host: h, Port: 1, Path: path}, "https://"+text+":1"+path)
			isWritten(t, api.URL{Secure: true, Host: h, Port: 65535, Path: path}, "https://"+text+":65535"+path)
		}
	}
}

func TestWrongURLs(t *testing.T) {
	for _, u := range sample.WrongURLs() {
		if url.Right(u) {
			t.Errorf("Right(%.200s)", fmt.Sprint(u))
		}
		if got := url.Text(u); got != "" {
			t.Errorf("Text(%.200s) = %.80q", fmt.Sprint(u), got)
		}
	}
}

func TestRight(t *testing.T) {
	for _, text := range hosts {
		h := hostOf(t, text)
		for _, secure := range []bool{false, true} {
			for _, port := range []int{1, 2, 79, 80, 81, 442, 443, 444, 8080, 65534, 65535} {
				for _, path := range []string{"/", "/a", "//", "/!~", pathOf(2048)} {
					u := api.URL{Secure: secure, Host: h, Port: port, Path: path}
					if !url.Right(u) {
						t.Errorf("Right(%v) is false", u)
					}
				}
			}
		}
	}
	h := hostOf(t, "a")
	eachByte(func(c string, ofPath bool) {
		u := api.URL{Host: h, Port: 80, Path: "/" + c}
		if url.Right(u) != ofPath || (url.Text(u) != "") != ofPath {
			t.Errorf("Right(%v) isn't %v, or Text is %q", u, ofPath, url.Text(u))
		}
	})
}

// P4.2

func TestParse(t *testing.T) {
	a, b := hostOf(t, "a"), hostOf(t, "a.example.com")
	four, six := hostOf(t, "1.2.3.4"), hostOf(t, "[::1]")
	for s, want := range map[string]api.URL{
		"http://a":                       {Host: a, Port: 80, Path: "/"},
		"https://a":                      {Secure: true, Host: a, Port: 443, Path: "/"},
		"http://a/":                      {Host: a, Port: 80, Path: "/"},
		"https://A.Example.com/A/b":      {Secure: true, Host: b, Port: 443, Path: "/A/b"},
		"http://a.example.com:8080/x/":   {Host: b, Port: 8080, Path: "/x/"},
		"HTTPS://a.example.com:8443?x":   {Secure: true, Host: b, Port: 8443, Path: "/"},
		"http://1.2.3.4":                 {Host: four, Port: 80, Path: "/"},
		"https://1.2.3.4:80/a":           {Secure: true, Host: four, Port: 80, Path: "/a"},
		"http://[::1]":                   {Host: six, Port: 80, Path: "/"},
		"http://[0:0::0001]/x":           {Host: six, Port: 80, Path: "/x"},
		"https://[::1]:9/a/b?c#d":        {Secure: true, Host: six, Port: 9, Path: "/a/b"},
		"http://[::1]?/a":                {Host: six, Port: 80, Path: "/"},
		"http://a?":                      {Host: a, Port: 80, Path: "/"},
		"http://a#":                      {Host: a, Port: 80, Path: "/"},
		"http://a?/b":                    {Host: a, Port: 80, Path: "/"},
		"http://a#/b":                    {Host: a, Port: 80, Path: "/"},
		"http://a:81?/b":                 {Host: a, Port: 81, Path: "/"},
		"http://a:81#:82":                {Host: a, Port: 81, Path: "/"},
		"http://a?:81":                   {Host: a, Port: 80, Path: "/"},
		"http://a/:81":                   {Host: a, Port: 80, Path: "/:81"},
		"http://a/b:c@d/[e]":             {Host: a, Port: 80, Path: "/b:c@d/[e]"},
		"http://a//":                     {Host: a, Port: 80, Path: "//"},
		"http://a///b//":                 {Host: a, Port: 80, Path: "///b//"},
		"http://a/http://b:0/":           {Host: a, Port: 80, Path: "/http://b:0/"},
		"http://a/.././b/%2e":            {Host: a, Port: 80, Path: "/.././b/%2e"},
		"http://a/?b":                    {Host: a, Port: 80, Path: "/"},
		"http://a/b?c?d":                 {Host: a, Port: 80, Path: "/b"},
		"http://a/b#c#d":                 {Host: a, Port: 80, Path: "/b"},
		"http://a/b#c?d":                 {Host: a, Port: 80, Path: "/b"},
		"http://a/b?c#d":                 {Host: a, Port: 80, Path: "/b"},
		"http://a/b?c/d e\x00\x7f\xff\n": {Host: a, Port: 80, Path: "/b"},
		"http://a/b# \xff[]:0":           {Host: a, Port: 80, Path: "/b"},
		"http://a? \x00\xff":             {Host: a, Port: 80, Path: "/"},
		"http://a/b?" + pathOf(5000):     {Host: a, Port: 80, Path: "/b"},
		"http://a#" + pathOf(5000):       {Host: a, Port: 80, Path: "/"},
		"http://" + longHost:             {Host: hostOf(t, longHost), Port: 80, Path: "/"},
	} {
		is(t, s, want)
	}
}

// schemeIn writes a scheme, the letters of the mask as great ones.
func schemeIn(scheme string, mask int) string {
	written := []byte(scheme)
	for i := range written {
		if mask>>i&1 == 1 {
			written[i] -= 'a' - 'A'
		}
	}
	return string(written)
}

func TestSchemesInBothLetters(t *testing.T) {
	a := hostOf(t, "a")
	for mask := range 16 {
		is(t, schemeIn("http", mask)+"://a/b", api.URL{Host: a, Port: 80, Path: "/b"})
	}
	for mask := range 32 {
		is(t, schemeIn("https", mask)+"://a/b", api.URL{Secure: true, Host: a, Port: 443, Path: "/b"})
	}
}

func TestNoSchemes(t *testing.T) {
	for _, s := range []string{
		"", "a", "a.example.com", "a/b", "/", "/a", "//", "//a", "://", "://a", ":", ":80", "?", "#", "?http://a", "[::1]", "\xff", " ",
		"a://b", "ws://a", "wss://a", "ftp://a", "file:///a", "httpx://a", "httpss://a", "hhttp://a", "shttp://a", "ttp://a", "htt://a", "httq://a", "gttp://a", "http.://a", "http+s://a",
		"http", "http:", "http:/", "https", "https:", "https:/", "HTTP", "HTTPS:", "http:a", "http:/a", "https:a", "https:/a", "http//a", "https//a", "http/:/a", "http:://a", "http:?//a", "http: //a", "http:/ /a", "http ://a",
		" http://a", "\thttp://a", "\nhttp://a", "\x00http://a", "http\n://a", "http:\\\\a", "http;//a", "http%3A//a", "httpſ://a", "ｈttp://a", "http：//a",
		"a b://:0/ ", "http:/a:0/ ",
	} {
		isNone(t, s, api.ErrURL)
	}
}

// Each half of a scheme is none, and each byte of it counts.
func TestEachByteOfSchemes(t *testing.T) {
	h := hostOf(t, "a")
	for scheme, want := range map[string]api.URL{"http://": {Host: h, Port: 80, Path: "/"}, "https://": {Secure: true, Host: h, Port: 443, Path: "/"}} {
		for size := range len(scheme) {
			isNone(t, scheme[:size], api.ErrURL)
			if scheme[size] != 's' {
				isNone(t, scheme[:size]+scheme[size+1:]+"a", api.ErrURL)
			}
			isNone(t, strings.ToUpper(scheme[:size]), api.ErrURL)
		}
		for at := range len(scheme) {
			for c := range 256 {
				s := []byte(scheme + "a")
				s[at] = byte(c)
				if strings.ToLower(string(s)) == scheme+"a" {
					is(t, string(s), want)
				} else {
					isNone(t, string(s), api.ErrURL)
				}
			}
		}
	}
}

// bothSchemes tries what stands behind a scheme.
func bothSchemes(t *testing.T, rest string, want api.Errno) {
	t.Helper()
	isNone(t, "http://"+rest, want)
	isNone(t, "HTTPS://"+rest, want)
}

func TestNoHosts(t *testing.T) {
	for _, place := range []string{
		"", ":", ":80", ":0", "::", "::1", ":::", "1", "1.2.3", "1.2.3.4.5", "256.1.1.1", "01.2.3.4", "a.1", ".", "..", "a.", ".a", "a..b", "a.:80", ".:x",
		" ", " a", "a ", "a b", "a\t", "a\n", "a\x00", "a\x7f", "\xff", "ä", "a,b", "a;b", "a%20b", "a*", "*.a", "!a", "a\\b", "a+b",
		"u@a", "@a", "u@a:80", "@:80", longHost + "c", longHost + "c:80", strings.Repeat("a", 64), strings.Repeat("a", 64) + ":80",
		// Of a host that begins with the byte 91.
		"[", "[]", "[:]", "[a]", "[1]", "[1.2.3.4]", "[::1.2.3.4]", "[::g]", "[:::]", "[1:2]", "[::1%1]", "[ ::1]", "[]:80", "[]:", "[]x", "[a]:80", "[[::1]]", "[[::1]", "[[]", "[]]", "[::1:2:3:4:5:6:7:8]",
		"[::1", "[::1:80", "[::1:", "[::1:x", "[:80", "[a:80", "[:", "[::", "[::1}", "[::1)",
		"[::1]x", "[::1]80", "[::1]]", "[::1]]:80", "[::1][", "[::1][::1]", "[::1] ", "[::1] :80", "[::1]a:80", "[::1].", "[::1].:80", "[::1].a", "[::1]-", "[::1]@a", "[::1]x:0", "[::1]\\", "[::1]\xff",
		// It stands within: what is read goes up to the first `:`.
		"a[::1]", "a]", "]", "]:80", "a[", "a[b]:80", "1.2.3.4[", "x[::1]:80", " [::1]", "(::1)", "{::1}",
	} {
		for _, rest := range []string{"", "/", "/a", "?", "?a", "#", "#b", "/ ", "/?[::1]", "#]:80"} {
			bothSchemes(t, place+rest, api.ErrHost)
		}
	}
	bothSchemes(t, "/", api.ErrHost)
	bothSchemes(t, "//a", api.ErrHost)
	bothSchemes(t, "/a", api.ErrHost)
	bothSchemes(t, "?a", api.ErrHost)
	bothSchemes(t, "#a", api.ErrHost)
	// The place ends ahead of the byte 93.
	bothSchemes(t, "[::1/]", api.ErrHost)
	bothSchemes(t, "[::1?]:80", api.ErrHost)
	bothSchemes(t, "[::1#]/", api.ErrHost)
	bothSchemes(t, "[/::1]", api.ErrHost)
}

func TestHostsOfAllKinds(t *testing.T) {
	for _, text := range hosts {
		h := hostOf(t, text)
		for _, written := range []string{text, strings.ToUpper(text)} {
			for rest, path := range map[string]string{"": "/", "/": "/", "/a": "/a", "?": "/", "?/a": "/", "#": "/", "#/a": "/", "/a?b": "/a", "/a#b": "/a", "/:0": "/:0", "?:0": "/", "#]": "/"} {
				is(t, "http://"+written+rest, api.URL{Host: h, Port: 80, Path: path})
				is(t, "https://"+written+rest, api.URL{Secure: true, Host: h, Port: 443, Path: path})
				is(t, "http://"+written+":443"+rest, api.URL{Host: h, Port: 443, Path: path})
				is(t, "https://"+written+":80"+rest, api.URL{Secure: true, Host: h, Port: 80, Path: path})
				isNone(t, "http://"+written+":"+rest, api.ErrPort)
			}
		}
	}
}

func TestEachPort(t *testing.T) {
	h := hostOf(t, "a")
	for port := range 67000 {
		digits := strconv.Itoa(port)
		if port < 1 || port > 65535 {
			bothSchemes(t, "a:"+digits, api.ErrPort)
			bothSchemes(t, "[::1]:"+digits+"/b", api.ErrPort)
			continue
		}
		is(t, "http://a:"+digits, api.URL{Host: h, Port: port, Path: "/"})
		is(t, "https://a:"+digits+"/b", api.URL{Secure: true, Host: h, Port: port, Path: "/b"})
		plain := url.Text(api.URL{Host: h, Port: port, Path: "/"})
		if want := "http://a:" + digits + "/"; plain != want && port != 80 {
			t.Errorf("Text = %q, not %q", plain, want)
		}
		secure := url.Text(api.URL{Secure: true, Host: h, Port: port, Path: "/"})
		if want := "https://a:" + digits + "/"; secure != want && port != 443 {
			t.Errorf("Text = %q, not %q", secure, want)
		}
	}
}

func TestNoPorts(t *testing.T) {
	for _, port := range []string{
		"", "0", "00", "01", "080", "0443", "00080", "65536", "65537", "65616", "70000", "99999", "100000", "4294967376", "18446744073709551696", "999999999999999999", "1000000000000000000",
		"+80", "-80", "-1", "-0", " 80", "80 ", "\t80", "80\n", "80\x00", "8 0", "8_0", "8,0", "80.", "80.0", "8e1", "0x50", "x", "a", "80a", "a80", "80:", ":80", ":", "80:80", "1:2", "[::1]", "80]", "[", "]", "@", "80@a", "p@a.b", "%38%30", "\\80", "٨٠", "８０", "\xff",
		strings.Repeat("1", 1<<16), strings.Repeat("0", 1<<16),
	} {
		for _, place := range []string{"a", "a.example.com", "1.2.3.4", "[::1]"} {
			for _, rest := range []string{"", "/", "/a", "?", "#", "?80", "/ ", "/\xff", "/80"} {
				bothSchemes(t, place+":"+port+rest, api.ErrPort)
			}
		}
	}
}

func TestPathOfURLs(t *testing.T) {
	h := hostOf(t, "a")
	for _, size := range []int{1, 2, 2047, 2048} {
		for _, rest := range []string{"", "?", "#", "?a", "#b", "?" + pathOf(3000), "# \xff"} {
			is(t, "http://a"+pathOf(size)+rest, api.URL{Host: h, Port: 80, Path: pathOf(size)})
		}
	}
	for _, size := range []int{2049, 2050, 4096, 1 << 16} {
		for _, rest := range []string{"", "?", "#", "?a", "#b"} {
			bothSchemes(t, "a"+pathOf(size)+rest, api.ErrPath)
			bothSchemes(t, "[::1]:80"+pathOf(size)+rest, api.ErrPath)
		}
	}
	for _, path := range []string{"/ ", "/a b", "/a ", "/ a", "/\t", "/a\n", "/\r\n", "/\x00", "/a\x7f", "/\x80", "/\xff", "/ä", "/a\u00a0", "// ", "/a/ /b"} {
		for _, rest := range []string{"", "?", "#", "?a", "#b"} {
			bothSchemes(t, "a"+path+rest, api.ErrPath)
			bothSchemes(t, "1.2.3.4:8080"+path+rest, api.ErrPath)
		}
	}
}

func TestEachByteOfURLs(t *testing.T) {
	h := hostOf(t, "a")
	eachByte(func(c string, ofPath bool) {
		switch {
		case ofPath:
			is(t, "http://a/b"+c, api.URL{Host: h, Port: 80, Path: "/b" + c})
			is(t, "http://a/"+c+"b", api.URL{Host: h, Port: 80, Path: "/" + c + "b"})
		case c == "?" || c == "#":
			is(t, "http://a/b"+c, api.URL{Host: h, Port: 80, Path: "/b"})
			is(t, "http://a/"+c+"b", api.URL{Host: h, Port: 80, Path: "/"})
			is(t, "http://a"+c+"b", api.URL{Host: h, Port: 80, Path: "/"})
		default:
			bothSchemes(t, "a/b"+c, api.ErrPath)
			bothSchemes(t, "a/"+c+"b", api.ErrPath)
		}
		is(t, "http://a/b?"+c, api.URL{Host: h, Port: 80, Path: "/b"})
		is(t, "http://a#"+c+"/", api.URL{Host: h, Port: 80, Path: "/"})
	})
}

// Where several are wrong, the one that stands first is told.
func TestFirstErrors(t *testing.T) {
	schemes := map[string]bool{"http://": true, "HttpS://": true, "": false, "http:": false, "ws://": false}
	places := map[string]bool{"a": true, "1.2.3.4": true, "[::1]": true, "": false, "a b": false, "1.2.3": false, "[::1]x": false, "[]": false}
	ports := map[string]bool{"": true, ":80": true, ":65535": true, ":": false, ":0": false, ":65536": false, ":080": false, ":x": false, ":1:2": false}
	paths := map[string]bool{"": true, "/": true, "/a?b c": true, "?\xff": true, "#": true, "/ ": false, "/a\x7f?": false, pathOf(2049): false}
	for scheme, schemeRight := range schemes {
		for place, placeRight := range places {
			for port, portRight := range ports {
				for path, pathRight := range paths {
					s := scheme + place + port + path
					switch {
					case !schemeRight:
						isNone(t, s, api.ErrURL)
					case !placeRight:
						isNone(t, s, api.ErrHost)
					case !portRight:
						isNone(t, s, api.ErrPort)
					case !pathRight:
						isNone(t, s, api.ErrPath)
					default:
						if u, e := url.Parse(s); e != api.OK || !url.Right(u) {
							t.Errorf("Parse(%.80q) = %v, %d", s, u, e)
						}
					}
				}
			}
		}
	}
}

var (
	urlForm   = regexp.MustCompile(`(?s)^[hH][tT][tT][pP]([sS]?)://([^/?#]*)(/[^?#]*)?([?#].*)?$`)
	placeForm = regexp.MustCompile(`(?s)^(\[[^\]]*\]?|[^:\[][^:]*|)(.*)$`)
	portForm  = regexp.MustCompile(`^:([1-9][0-9]{0,4})$`)
	pathForm  = regexp.MustCompile("^/[!\"$->@-~]*$")
)

// parsed says once more what the chapter says, with the library's means.
func parsed(s string) (api.URL, api.Errno) {
	parts := urlForm.FindStringSubmatch(s)
	if parts == nil {
		return api.URL{}, api.ErrURL
	}
	u := api.URL{Secure: parts[1] != "", Port: 80, Path: parts[3]}
	if u.Secure {
		u.Port = 443
	}
	sides := placeForm.FindStringSubmatch(parts[2])
	h, e := host.Parse(sides[1])
	if e != api.OK || sides[2] != "" && sides[2][0] != ':' {
		return api.URL{}, api.ErrHost
	}
	u.Host = h
	if sides[2] != "" {
		digits := portForm.FindStringSubmatch(sides[2])
		if digits == nil {
			return api.URL{}, api.ErrPort
		}
		u.Port, _ = strconv.Atoi(digits[1])
	}
	if u.Port > 65535 {
		return api.URL{}, api.ErrPort
	}
	if u.Path == "" {
		u.Path = "/"
	}
	if !pathForm.MatchString(u.Path) || len(u.Path) > 2048 {
		return api.URL{}, api.ErrPath
	}
	return u, api.OK
}

func manyTexts() []string {
	var all []string
	for _, rest := range sample.Texts(6, "a", ":", "8", "0", "/", "?", "#", "]") {
		all = append(all, "http://"+rest)
	}
	for _, rest := range sample.Texts(4, "A.b", ":", "::1", "[", "]", "[::1]", "/", "?", "#", "65535", "6", "1.2.3.4", " ", "@", "ä", "\xff") {
		all = append(all, "hTTps://"+rest)
	}
	all = append(all, sample.Texts(7, "h", "ttp", "S", ":", "//", "a", "/")...)
	return append(all, sample.Texts(5, "https", "HTTP", "://", ":80", "[::1]", "b.c", "?", "/", "://")...)
}

func TestManyTexts(t *testing.T) {
	for _, s := range manyTexts() {
		want, e := parsed(s)
		if e != api.OK {
			isNone(t, s, e)
			continue
		}
		is(t, s, want)
		is(t, url.Text(want), want)
	}
}

// P1, P2

// answers writes down what all calls say of a text, and of the URLs that it
// may be.
func answers(s string) string {
	u, e := url.Parse(s)
	all := fmt.Sprint(u, e, url.Path(s))
	for _, one := range []api.URL{u, {Host: u.Host, Port: len(s), Path: s}, {Host: api.Host{Kind: 1, Name: s}, Port: 80, Path: "/"}} {
		all += fmt.Sprintf("%q %v %v", url.Text(one), url.Right(one), url.Path(one.Path))
	}
	return all
}

func TestAnswersHangOnArgumentsAlone(t *testing.T) {
	var all []string
	for _, rest := range sample.Texts(5, "a", ":", "80", "[::1]", "/", "?", "\xff") {
		all = append(all, rest, "http://"+rest)
	}
	for _, s := range sample.Unsteady(all, answers) {
		t.Errorf("%q: two answers", s)
	}
}

func TestGreatTexts(t *testing.T) {
	const size = 1 << 24
	for s, want := range map[string]api.Errno{
		strings.Repeat("h", size):                      api.ErrURL,
		strings.Repeat("http://", size/7):              api.ErrPort,
		"http://" + strings.Repeat("a", size):          api.ErrHost,
		"http://" + strings.Repeat("[", size):          api.ErrHost,
		"http://" + strings.Repeat(":", size):          api.ErrHost,
		"http://[" + strings.Repeat(":", size) + "]":   api.ErrHost,
		"http://[::1]" + strings.Repeat("]", size):     api.ErrHost,
		"http://a:" + strings.Repeat("1", size):        api.ErrPort,
		"http://a:" + strings.Repeat("0", size):        api.ErrPort,
		"http://a" + strings.Repeat("/", size):         api.ErrPath,
		"http://a/" + strings.Repeat("\xff", size):     api.ErrPath,
		"https://a" + strings.Repeat(":", size):        api.ErrPort,
		"https://a/" + strings.Repeat("x", size) + "?": api.ErrPath,
	} {
		isNone(t, s, want)
		u := api.URL{Host: api.Host{Kind: 1, Name: s}, Port: 80, Path: s}
		if url.Path(s) || url.Right(u) || url.Text(u) != "" {
			t.Errorf("a text of %d bytes, %.20q", len(s), s)
		}
	}
	is(t, "http://a?"+strings.Repeat("/", size), api.URL{Host: hostOf(t, "a"), Port: 80, Path: "/"})
	is(t, "http://a/#"+strings.Repeat("\xff", size), api.URL{Host: hostOf(t, "a"), Port: 80, Path: "/"})
}
