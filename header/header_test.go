package header_test

import (
	"fmt"
	"math"
	"math/big"
	"regexp"
	"strings"
	"testing"

	"cracknel/api"
	"cracknel/date"
	"cracknel/header"
	"cracknel/sample"
)

// The ends of the moments that have dates.
const (
	firstMoment = -11644473600
	lastMoment  = 253402300799
)

// shown: a header, for a line that tells what is wrong.
func shown(h api.Header) string { return fmt.Sprintf("%.200q", fmt.Sprintf("%+v", h)) }

func is(t *testing.T, s string, want api.Header) {
	t.Helper()
	if h, e := header.Parse(s); e != api.OK || h != want {
		t.Errorf("Parse(%.100q) = %s, %d, not %s", s, shown(h), e, shown(want))
	}
	if !header.Right(want) {
		t.Errorf("Right(%s) is false", shown(want))
	}
}

func isNone(t *testing.T, s string, want api.Errno) {
	t.Helper()
	if h, e := header.Parse(s); e != want || h != (api.Header{}) {
		t.Errorf("Parse(%.100q) = %s, %d, not %d", s, shown(h), e, want)
	}
}

// says: do these attributes, behind the pair a=b, say this?
func says(t *testing.T, attributes string, want api.Header) {
	t.Helper()
	want.Name, want.Value = "a", "b"
	is(t, "a=b;"+attributes, want)
	is(t, "a=b;"+strings.ReplaceAll(attributes, ";", " \t; \t")+"\t ", want)
}

func isPair(t *testing.T, s, name, value string) {
	t.Helper()
	is(t, s, api.Header{Name: name, Value: value})
}

func isWritten(t *testing.T, h api.Header, want string) {
	t.Helper()
	if got := header.Text(h); got != want {
		t.Errorf("Text(%s) = %.200q, not %.200q", shown(h), got, want)
	}
	is(t, want, h)
}

func isWrong(t *testing.T, h api.Header) {
	t.Helper()
	if header.Right(h) {
		t.Errorf("Right(%s)", shown(h))
	}
	if got := header.Text(h); got != "" {
		t.Errorf("Text(%s) = %.100q", shown(h), got)
	}
}

// of: so many of these bytes.
func of(size int, s string) string { return strings.Repeat(s, size) }

// control: is it a byte that may not stand there?
func control(c int) bool { return c <= 8 || c >= 10 && c <= 31 || c == 127 }

// eachByte calls f with all bytes.
func eachByte(f func(c int, s string)) {
	for c := range 256 {
		f(c, string([]byte{byte(c)}))
	}
}

// P8.1

func TestPairs(t *testing.T) {
	for s, want := range map[string][2]string{
		"a=b":                      {"a", "b"},
		"a=":                       {"a", ""},
		"a":                        {"", "a"},
		"=a":                       {"", "a"},
		"==":                       {"", "="},
		"=a=b":                     {"", "a=b"},
		"a=b=c":                    {"a", "b=c"},
		"a==":                      {"a", "="},
		"a==b":                     {"a", "=b"},
		" a = b ":                  {"a", "b"},
		"\ta\t=\tb\t":              {"a", "b"},
		" \t a b \t = \t c\td \t ": {"a b", "c\td"},
		" = a = b = ":              {"", "a = b ="},
		"  a b  ":                  {"", "a b"},
		"\t":                       {"", ""},
		"a = ":                     {"a", ""},
		" = b":                     {"", "b"},
		"A=B":                      {"A", "B"},
		"\"a\"=\"b c\"":            {"\"a\"", "\"b c\""},
		"a=b,c=d":                  {"a", "b,c=d"},
		"\u00e4=\u00f6":            {"\u00e4", "\u00f6"},
		"\xff=\x80":                {"\xff", "\x80"},
		"\u00a0a\u00a0=\u3000b":    {"\u00a0a\u00a0", "\u3000b"},
		"%00=%3B":                  {"%00", "%3B"},
		"secure":                   {"", "secure"},
		"secure=":                  {"secure", ""},
		"Domain=x":                 {"Domain", "x"},
		"Max-Age=5":                {"Max-Age", "5"},
		"__Host-a=b":               {"__Host-a", "b"},
	} {
		for _, more := range []string{"", ";", "; ", ";;;", " ; \t;", ";x", ";=", ";=;a=b", ";c=d", "; a=c"} {
			if want == [2]string{} {
				isNone(t, s+more, api.ErrEmpty)
			} else {
				isPair(t, s+more, want[0], want[1])
			}
		}
	}
}

// Each byte within a name and a value, and at their ends.
func TestEachByteOfPairs(t *testing.T) {
	eachByte(func(c int, s string) {
		ends := s
		if s == " " || s == "\t" {
			ends = ""
		}
		switch {
		case control(c):
			for _, text := range []string{"x" + s + "y=z", "x=y" + s + "z", s + "x=y", "x" + s + "=y", "x=" + s + "y", "x=y" + s, "x" + s, s + "x"} {
				isNone(t, text, api.ErrControl)
			}
		case s == ";":
			isPair(t, "x;y=z", "", "x")
			isPair(t, "x=y;z", "x", "y")
			isPair(t, "x=;y", "x", "")
			isNone(t, ";x=y", api.ErrEmpty)
		case s == "=":
			isPair(t, "x==y", "x", "=y")
			isPair(t, "=x=y", "", "x=y")
			isPair(t, "x=y=", "x", "y=")
		default:
			isPair(t, "x"+s+"y=z"+s+"w", "x"+s+"y", "z"+s+"w")
			isPair(t, s+"x"+s+"="+s+"y"+s, ends+"x"+ends, ends+"y"+ends)
			isPair(t, s+s+"x=y"+s+s, ends+ends+"x", "y"+ends+ends)
			isPair(t, s+"x"+s, "", ends+"x"+ends)
		}
	})
}

// A byte that may not stand there is told ahead of all else, wherever it stands.
func TestEachByteOfHeaders(t *testing.T) {
	texts := map[string]api.Errno{"a=b": api.OK, "": api.ErrEmpty, "=;a=b": api.ErrEmpty, of(4097, "x"): api.ErrSize, "a=" + of(4096, "x") + ";Path=/": api.ErrSize, "a=b; Domain=x.com; Secure; x=y": api.OK, "a=b;" + of(5000, "x"): api.OK, "a=b;Path=/" + of(5000, "x"): api.OK}
	eachByte(func(c int, s string) {
		for text, want := range texts {
			for at := 0; at <= len(text); at += 1 + len(text)/20 {
				with := text[:at] + s + text[at:]
				_, e := header.Parse(with)
				if (e == api.ErrControl) != control(c) {
					t.Errorf("Parse(%.60q) = %d", with, e)
				}
				if control(c) {
					isNone(t, with, api.ErrControl)
				}
			}
			for _, place := range []string{"; x", "; x=y", ";Path=/x", "; Domain=", ";", "; ;", "; Secure", "; Expires=1 ", "; Max-Age=1", ";SameSite=Lax", "; =", "; x=" + of(2000, "y")} {
				_, e := header.Parse(text + place + s)
				if control(c) {
					isNone(t, text+place+s, api.ErrControl)
				} else if e != want {
					t.Errorf("Parse(%.60q) = %d, not %d", text+place+s, e, want)
				}
			}
		}
	})
}

func TestEmpty(t *testing.T) {
	for _, s := range []string{"", " ", "\t", " \t \t ", "=", " = ", "\t=\t", of(9000, " "), of(5000, " ") + "=" + of(5000, "\t")} {
		for _, more := range []string{"", ";", ";;", "; ", "; a=b", ";Domain=x.com", "; Secure; Path=/", ";" + of(9000, "x")} {
			isNone(t, s+more, api.ErrEmpty)
		}
	}
}

func TestSizes(t *testing.T) {
	blanks := of(3000, " \t")
	for _, size := range []int{0, 1, 2, 3, 1023, 1024, 1025, 2048, 4000, 4094, 4095, 4096, 4097, 4098, 5000, 9000} {
		for rest := 4093 - size; rest <= 4100-size; rest++ {
			if size+rest == 0 || rest < 0 {
				continue
			}
			name, value := of(size, "n"), of(rest, "v")
			texts := []string{name + "=" + value, blanks + name + blanks + "=" + blanks + value + blanks, name + "=" + value + ";" + of(9000, "x")}
			if size == 0 {
				texts = append(texts, value, blanks+value+blanks+";")
			}
			for _, s := range texts {
				if size+rest <= 4096 {
					isPair(t, s, name, value)
				} else {
					isNone(t, s, api.ErrSize)
				}
			}
		}
	}
	// Bytes count, not letters; and the first sign counts for nothing.
	isPair(t, of(2048, "\u00e4"), "", of(2048, "\u00e4"))
	isNone(t, of(2048, "\u00e4")+"x", api.ErrSize)
	isPair(t, "=x"+of(4095, "="), "", "x"+of(4095, "="))
	isNone(t, "=x"+of(4096, "="), api.ErrSize)
	isPair(t, "a=b"+of(4000, " ")+"c", "a", "b"+of(4000, " ")+"c")
	isNone(t, "a=b"+of(4094, " ")+"c", api.ErrSize)
}

// P8.2

// keys are those of the chapter, each with an attribute's value, and with what
// the attribute says.
var keys = []struct {
	key, value string
	says       api.Header
}{
	{"Expires", "Thu, 01 Jan 1970 00:00:05 GMT", api.Header{HasExpires: true, Expires: 5}},
	{"Max-Age", "9", api.Header{HasAge: true, Age: 9}},
	{"Domain", "x.com", api.Header{Domain: "x.com"}},
	{"Path", "/p", api.Header{Path: "/p"}},
	{"Secure", "s", api.Header{Secure: true}},
	{"HttpOnly", "o", api.Header{HttpOnly: true}},
	{"SameSite", "Lax", api.Header{Same: api.SameLax}},
}

// inLetters writes a word, the letters of the mask the other way.
func inLetters(word string, mask int) string {
	written := []byte(word)
	for i, c := range written {
		if mask>>i&1 == 1 && c != '-' {
			written[i] = c ^ 32
		}
	}
	return string(written)
}

func TestKeysInBothLetters(t *testing.T) {
	for _, one := range keys {
		for mask := range 1 << len(one.key) {
			says(t, inLetters(one.key, mask)+"="+one.value, one.says)
		}
	}
}

func TestKeysTrimmed(t *testing.T) {
	for _, one := range keys {
		for _, blanks := range []string{"", " ", "\t", " \t ", of(3000, "\t ")} {
			says(t, blanks+one.key+"="+one.value, one.says)
			says(t, one.key+blanks+"="+one.value, one.says)
			says(t, one.key+"="+blanks+one.value, one.says)
			says(t, one.key+"="+one.value+blanks, one.says)
			says(t, blanks+one.key+blanks+"="+blanks+one.value+blanks, one.says)
			says(t, ";"+blanks+";"+one.key+"="+one.value+";;", one.says)
		}
	}
}

func TestNoKeys(t *testing.T) {
	for _, one := range keys {
		eachByte(func(c int, s string) {
			if control(c) || s == ";" {
				return
			}
			for at := range len(one.key) {
				other := one.key[:at] + s + one.key[at+1:]
				if !strings.EqualFold(other, one.key) || c > 127 {
					says(t, other+"="+one.value, api.Header{})
				}
			}
			if s != " " && s != "\t" {
				says(t, s+one.key+"="+one.value, api.Header{})
				if s != "=" {
					says(t, one.key+s+"="+one.value, api.Header{})
				}
			}
		})
		for at := range len(one.key) {
			says(t, one.key[:at]+"="+one.value, api.Header{})
			says(t, one.key[at+1:]+"="+one.value, api.Header{})
			says(t, one.key[:at]+one.key[at+1:]+"="+one.value, api.Header{})
			if at > 0 {
				says(t, one.key[:at]+" "+one.key[at:]+"="+one.value, api.Header{})
			}
		}
		for _, other := range []string{"x", "x-" + one.key, one.key + "2", one.key + "s", one.key + "." + one.key, of(5000, one.key), "\u00a0" + one.key, one.key + "\u3000", "\"" + one.key + "\"", "$" + one.key} {
			says(t, other+"="+one.value, api.Header{})
			says(t, other, api.Header{})
		}
		// The sign stands ahead of it, or the value does.
		says(t, "="+one.key, api.Header{})
		says(t, "="+one.key+"="+one.value, api.Header{})
		says(t, one.value+"="+one.key, api.Header{})
		says(t, "x="+one.key+"="+one.value, api.Header{})
		says(t, one.key+":"+one.value, api.Header{})
		says(t, "x,"+one.key+"="+one.value, api.Header{})
	}
	says(t, "\u017fecure", api.Header{})
	says(t, "\u017fame\u017fite=Lax", api.Header{})
	says(t, "MaxAge=5;Max Age=5;Max_Age=5;Http-Only;HTTP Only;Same-Site=Lax;Expire=1 jan 1970 0:0:0", api.Header{})
}

func TestExpires(t *testing.T) {
	for s, want := range map[string]int64{
		"Thu, 01 Jan 1970 00:00:00 GMT": 0,
		"Sun, 06 Nov 1994 08:49:37 GMT": 784111777,
		"1-feb-70 0:0:9":                2678409,
		"31 dec 1969 23:59:59":          -1,
		"1 jan 1601 0:0:0":              firstMoment,
		"31 dec 9999 23:59:59":          lastMoment,
		"=1=jan=1970=0:0:7=":            7,
		"\"1 jan 1970 0:0:8\"":          8,
		"Expires=1 jan 1970 0:0:9":      9,
		"1 jan 1970 0:0:9 2 feb 1980":   9,
		"1 jan 1970\t \t0:0:6\xff":      6,
	} {
		says(t, "Expires="+s, api.Header{HasExpires: true, Expires: want})
	}
	for _, s := range []string{"", "0", "5", "-1", "never", "Session", "1 jan 1970", "32 jan 1970 0:0:0", "1 jan 1600 0:0:0", "1 jan 10000 0:0:0", "1 jan 1970 24:0:0", "1970-01-01T00:00:00Z", "\xff"} {
		says(t, "Expires="+s, api.Header{})
		says(t, "Expires=1 jan 1970 0:0:9;Expires="+s, api.Header{HasExpires: true, Expires: 9})
		says(t, "Expires="+s+";Expires=1 jan 1970 0:0:9", api.Header{HasExpires: true, Expires: 9})
	}
	says(t, "Expires", api.Header{})
	says(t, "Expires 1 jan 1970 0:0:9", api.Header{})
	// What is cut away isn't told.
	says(t, "Expires=1 jan 1970; 0:0:9", api.Header{})
	says(t, "Expires=1 jan 1970 0:0:0", api.Header{HasExpires: true})
	says(t, "Expires=1 jan 1970 0:0:9; expires=2 jan 1970 0:0:0", api.Header{HasExpires: true, Expires: 86400})
	says(t, "Expires=2 jan 1970 0:0:0; expires=1 jan 1970 0:0:0", api.Header{HasExpires: true})
}

func TestMaxAge(t *testing.T) {
	for s, want := range map[string]int64{
		"0": 0, "00": 0, "1": 1, "9": 9, "10": 10, "007": 7, "3600": 3600, "34559999": 34559999, "34560000": 34560000, "34560001": 34560000, "34560010": 34560000, "34600000": 34560000, "35000000": 34560000, "99999999": 34560000,
		"000000000000000000000000000034559999": 34559999, "000000000000000000000000000034560001": 34560000,
		"100000000": 34560000, "345600000": 34560000, "999999999999999999": 34560000, "1000000000000000000": 34560000, "9223372036854775807": 34560000, "9223372036854775808": 34560000, "9223372036854775809": 34560000,
		"18446744073709551615": 34560000, "18446744073709551616": 34560000, "18446744073709551617": 34560000, "4294967296": 34560000, "4294967301": 34560000, "340282366920938463463374607431768211461": 34560000,
		of(1024, "0"): 0, of(1023, "0") + "8": 8, of(1024, "9"): 34560000, "1" + of(1023, "0"): 34560000, of(1016, "0") + "34559999": 34559999,
		"-0": 0, "-00": 0, "-1": 0, "-9": 0, "-007": 0, "-34560000": 0, "-34560001": 0, "-9223372036854775808": 0, "-9223372036854775809": 0, "-18446744073709551615": 0, "-" + of(1023, "9"): 0, "-" + of(1023, "0"): 0,
	} {
		says(t, "Max-Age="+s, api.Header{HasAge: true, Age: want})
		says(t, "Max-Age=77; Max-Age="+s, api.Header{HasAge: true, Age: want})
		says(t, "Max-Age="+s+"; max-age=77", api.Header{HasAge: true, Age: 77})
	}
	for _, s := range []string{
		"", "-", "--", "--1", "-+1", "+1", "+", "- 1", "-\t1", "1-", "2-1", "-1-", "1 2", "1,5", "1.5", "1.", ".5", "-.5", "1e3", "0x10", "1_000", "x", "5s", "s5", "-5s", "-x", "\"5\"", "'5'", "=5", "5=", "1\t2", "\u0665", "\uff15", "\u22125", "\xff", "5\xff", "\xb5",
		of(1025, "0"), of(1025, "9"), "-" + of(1024, "9"), of(5000, "1"),
	} {
		says(t, "Max-Age="+s, api.Header{})
		says(t, "Max-Age=77; Max-Age="+s, api.Header{HasAge: true, Age: 77})
		says(t, "Max-Age="+s+"; max-age=-77", api.Header{HasAge: true})
	}
	says(t, "Max-Age", api.Header{})
	says(t, "Max-Age5", api.Header{})
	says(t, "Max-Age=5; Max-Age", api.Header{HasAge: true, Age: 5})
	eachByte(func(c int, s string) {
		switch {
		case control(c) || s == ";":
		case c >= '0' && c <= '9':
			says(t, "Max-Age=1"+s+"2", api.Header{HasAge: true, Age: int64(102 + (c-'0')*10)})
			says(t, "Max-Age="+s, api.Header{HasAge: true, Age: int64(c - '0')})
			says(t, "Max-Age=-"+s, api.Header{HasAge: true})
		case s == " " || s == "\t":
			says(t, "Max-Age="+s+"12"+s, api.Header{HasAge: true, Age: 12})
			says(t, "Max-Age=1"+s+"2;Max-Age=-"+s+"1", api.Header{})
		default:
			says(t, "Max-Age=1"+s+"2;Max-Age=12"+s+";Max-Age="+s, api.Header{})
			says(t, "Max-Age=-"+s+"1;Max-Age=-1"+s+";Max-Age=-1"+s+"1", api.Header{})
			if s == "-" {
				says(t, "Max-Age="+s+"12", api.Header{HasAge: true})
			} else {
				says(t, "Max-Age="+s+"12", api.Header{})
			}
		}
	})
}

// All ages, and those around the greatest.
func TestAges(t *testing.T) {
	for _, from := range []int64{0, 34559000, 34560000, 345600000, 3456000000} {
		for age := from; age < from+2000; age++ {
			is(t, fmt.Sprintf("a=b;Max-Age=%d", age), api.Header{Name: "a", Value: "b", HasAge: true, Age: min(age, 34560000)})
			is(t, fmt.Sprintf("a=b;Max-Age=-%d", age), api.Header{Name: "a", Value: "b", HasAge: true})
		}
	}
}

func TestDomain(t *testing.T) {
	for s, want := range map[string]string{
		"x": "x", "x.com": "x.com", "X.COM": "x.com", ".x.com": "x.com", ".X.Com": "x.com", "..x.com": ".x.com", "...x": "..x", ".": "", "..": ".", "...": "..", "": "", "x.": "x.", ".x.": "x.", "x..y": "x..y",
		". x": " x", ".\tx": "\tx", ". .x": " .x", ".. x": ". x", ". ": "", " . ": "", "x y": "x y", "=": "=", "x=y": "x=y", "=.x": "=.x", "1.2.3.4": "1.2.3.4", "[::1]": "[::1]", "com": "com", "*": "*", "http://X/": "http://x/", "\"X\"": "\"x\"",
		"\xff": "\xff", "\xc4": "\xc4", "\u00c4.com": "\u00c4.com", "\u212a": "\u212a", "\u017f": "\u017f", "\u3002x": "\u3002x", "@[`{AZaz": "@[`{azaz",
		of(1024, "X"): of(1024, "x"), of(1024, "."): of(1023, "."), "." + of(1023, "x"): of(1023, "x"),
	} {
		says(t, "Domain="+s, api.Header{Domain: want})
		says(t, "Domain=other.com;Domain="+s, api.Header{Domain: want})
		says(t, "Domain="+s+";domain=OTHER.com", api.Header{Domain: "other.com"})
	}
	says(t, "Domain", api.Header{})
	says(t, "Domain=x;Domain", api.Header{})
	says(t, "Domain=x;Domain=", api.Header{})
	for _, s := range []string{of(1025, "x"), "." + of(1024, "x"), of(5000, ".")} {
		says(t, "Domain="+s, api.Header{})
		says(t, "Domain=x;Domain="+s, api.Header{Domain: "x"})
		says(t, "Domain="+s+";Domain=x", api.Header{Domain: "x"})
	}
	eachByte(func(c int, s string) {
		if control(c) || s == ";" {
			return
		}
		lower := s
		if c >= 'A' && c <= 'Z' {
			lower = string([]byte{byte(c) + 32})
		}
		says(t, "Domain=x"+s+"y", api.Header{Domain: "x" + lower + "y"})
		says(t, "Domain=.."+s+"y", api.Header{Domain: "." + lower + "y"})
		says(t, "Domain=."+s+"y", api.Header{Domain: lower + "y"})
	})
}

func TestPath(t *testing.T) {
	for s, want := range map[string]string{
		"/": "/", "//": "//", "/a": "/a", "/A/b/": "/A/b/", "/a b": "/a b", "/\ta": "/\ta", "/?x#y": "/?x#y", "/..": "/..", "/=": "/=", "/a=b": "/a=b", "/%20": "/%20", "/\xff": "/\xff", "/\u00e4": "/\u00e4", "/\"x\"": "/\"x\"",
		"": "", "a": "", "a/": "", "./": "", "\"/\"": "", "=/": "", "\\": "", "%2F": "", "\u2215": "", "\xff/": "", ".": "", "*": "", "http://a/": "",
		"/" + of(1023, "x"): "/" + of(1023, "x"), of(1024, "/"): of(1024, "/"), of(1024, "x"): "", "/" + of(1022, " ") + "x": "/" + of(1022, " ") + "x",
	} {
		says(t, "Path="+s, api.Header{Path: want})
		says(t, "Path=/other;Path="+s, api.Header{Path: want})
		says(t, "Path="+s+";path=/other", api.Header{Path: "/other"})
	}
	says(t, "Path", api.Header{})
	says(t, "Path=/x;Path", api.Header{})
	says(t, "Path/x", api.Header{})
	for _, s := range []string{"/" + of(1024, "x"), of(1025, "x"), of(1025, "/"), "/" + of(5000, "x")} {
		says(t, "Path="+s, api.Header{})
		says(t, "Path=/x;Path="+s, api.Header{Path: "/x"})
		says(t, "Path="+s+";Path=/x", api.Header{Path: "/x"})
	}
	eachByte(func(c int, s string) {
		if control(c) || s == ";" {
			return
		}
		says(t, "Path=/x"+s+"y", api.Header{Path: "/x" + s + "y"})
		says(t, "Path=/"+s+"y", api.Header{Path: "/" + s + "y"})
		switch s {
		case "/":
			says(t, "Path="+s+"y", api.Header{Path: "/y"})
		case " ", "\t":
			says(t, "Path="+s+"/y"+s, api.Header{Path: "/y"})
		default:
			says(t, "Path="+s+"/y", api.Header{})
		}
	})
}

func TestSecureAndHttpOnly(t *testing.T) {
	for _, value := range []string{"", "=", "= ", "=0", "=no", "=false", "=true", "=\xff", "==", "= a = b", "=" + of(1024, "x"), "=" + of(3000, " ") + of(1024, "x") + of(3000, "\t")} {
		says(t, "Secure"+value, api.Header{Secure: true})
		says(t, "HttpOnly"+value, api.Header{HttpOnly: true})
		says(t, "Secure;Secure"+value+";HttpOnly"+value, api.Header{Secure: true, HttpOnly: true})
	}
	for _, value := range []string{"=" + of(1025, "x"), "=" + of(5000, "x"), "==" + of(1024, "x"), "=" + of(513, "\u00e4")} {
		says(t, "Secure"+value, api.Header{})
		says(t, "HttpOnly"+value, api.Header{})
		says(t, "Secure;Secure"+value, api.Header{Secure: true})
		says(t, "HttpOnly"+value+";HttpOnly", api.Header{HttpOnly: true})
	}
}

func TestSameSite(t *testing.T) {
	for name, want := range map[string]int{"None": api.SameNone, "Lax": api.SameLax, "Strict": api.SameStrict} {
		for mask := range 1 << len(name) {
			says(t, "SameSite="+inLetters(name, mask), api.Header{Same: want})
			says(t, "SameSite=Strict;SameSite=Lax;samesite="+inLetters(name, mask), api.Header{Same: want})
		}
		for _, other := range []string{"", "x", name + "x", "x" + name, name[1:], name[:len(name)-1], name + "=", "=" + name, name + " " + name, name + ",", "\"" + name + "\"", "Default", "0", "1", "2", "3", "\xff", "\u017ftrict", of(1024, "x")} {
			says(t, "SameSite="+other, api.Header{})
			says(t, "SameSite="+name+";SameSite="+other, api.Header{})
			says(t, "SameSite="+other+";SameSite="+name, api.Header{Same: want})
		}
		says(t, "SameSite="+name+";SameSite", api.Header{})
		says(t, "SameSite="+name+";SameSite="+of(1025, "x"), api.Header{Same: want})
		says(t, "SameSite="+name+";SameSite="+of(1021, "x")+" "+name, api.Header{Same: want})
		eachByte(func(c int, s string) {
			if control(c) || s == ";" {
				return
			}
			for at := range len(name) {
				other := name[:at] + s + name[at+1:]
				if !strings.EqualFold(other, name) && strings.Trim(other, " \t") == other {
					says(t, "SameSite="+name+";SameSite="+other, api.Header{})
				}
			}
		})
	}
	says(t, "SameSite", api.Header{})
	says(t, "SameSite None", api.Header{})
}

// The value counts without its blanks, and counts by bytes.
func TestLongValues(t *testing.T) {
	blanks := of(1500, " \t")
	for size := 1000; size <= 1040; size++ {
		fits := size <= 1024
		for value, want := range map[string]api.Header{
			"Domain=" + of(size, "d"):                         {Domain: of(size, "d")},
			"Path=/" + of(size-1, "p"):                        {Path: "/" + of(size-1, "p")},
			"Path=/\u00e4" + of(size-3, "p"):                  {Path: "/\u00e4" + of(size-3, "p")},
			"Max-Age=" + of(size-1, "0") + "6":                {HasAge: true, Age: 6},
			"Max-Age=-" + of(size-1, "6"):                     {HasAge: true},
			"Secure=" + of(size, "s"):                         {Secure: true},
			"HttpOnly=" + of(size, "="):                       {HttpOnly: true},
			"Expires=1 jan 1970" + of(size-15, " ") + "0:0:5": {HasExpires: true, Expires: 5},
		} {
			if !fits {
				want = api.Header{}
			}
			says(t, value, want)
			says(t, value+blanks, want)
			says(t, strings.Replace(value, "=", "="+blanks, 1), want)
		}
	}
}

// The last one of each key counts, whatever stands between; what is passed
// over is no last one.
func TestManyAttributes(t *testing.T) {
	all := api.Header{HasExpires: true, Expires: 5, HasAge: true, Age: 9, Domain: "x.com", Path: "/p", Secure: true, HttpOnly: true, Same: api.SameLax}
	for shift := range keys {
		var parts, back []string
		for i := range keys {
			one := keys[(i+shift)%len(keys)]
			parts = append(parts, one.key+"="+one.value)
			back = append([]string{strings.ToUpper(one.key) + " = " + one.value}, back...)
		}
		says(t, strings.Join(parts, ";"), all)
		says(t, strings.Join(back, "; "), all)
		says(t, "Path=/;Domain=y;SameSite=None;Max-Age=1;Expires=1 jan 1999 0:0:0;"+strings.Join(parts, ";")+";x;Max-Age=x;Expires=x", all)
		says(t, strings.Join(back, ";")+";"+strings.Join(parts, ";"), all)
	}
	is(t, "a=b; path=/x; MAX-AGE=5; Secure", api.Header{Name: "a", Value: "b", HasAge: true, Age: 5, Path: "/x", Secure: true})
	says(t, of(1000, "Path=/x;Path=/y;")+"Path=/z", api.Header{Path: "/z"})
	says(t, of(1000, "Domain=x;Max-Age=1;")+"Max-Age=2;Domain", api.Header{HasAge: true, Age: 2})
	// The first piece is no attribute, whatever its key.
	is(t, "Path=/x; Domain=y", api.Header{Name: "Path", Value: "/x", Domain: "y"})
	is(t, "Secure; HttpOnly", api.Header{Value: "Secure", HttpOnly: true})
	// Quotes keep nothing together.
	is(t, "a=\"b; Path=/x\"", api.Header{Name: "a", Value: "\"b", Path: "/x\""})
	is(t, "a=b, Path=/x", api.Header{Name: "a", Value: "b, Path=/x"})
}

// The chapter's texts once more, with the library's means.
var (
	controlForm = regexp.MustCompile(`[\x00-\x08\x0a-\x1f\x7f]`)
	signForm    = regexp.MustCompile(`(?s)^[ \t]*([^=]*?)[ \t]*(?:(=)[ \t]*(.*?)[ \t]*)?$`)
	greatForm   = regexp.MustCompile(`[A-Z]+`)
	ageForm     = regexp.MustCompile(`^-?[0-9]+$`)
)

func lower(s string) string { return greatForm.ReplaceAllStringFunc(s, strings.ToLower) }

// ageRead: the age of a value that is one.
func ageRead(value string) int64 {
	var age big.Int
	age.SetString(value, 10)
	if age.Cmp(big.NewInt(34560000)) > 0 {
		return 34560000
	}
	return max(age.Int64()*int64(1-strings.Count(value, "-")), 0)
}

// attributeRead says once more what the chapter says of one attribute.
func attributeRead(h *api.Header, key, value string) {
	switch lower(key) {
	case "expires":
		if moment, ok := date.Cookie(value); ok {
			h.HasExpires, h.Expires = true, moment
		}
	case "max-age":
		if ageForm.MatchString(value) {
			h.HasAge, h.Age = true, ageRead(value)
		}
	case "domain":
		h.Domain = lower(value)
		if h.Domain != "" && h.Domain[0] == '.' {
			h.Domain = h.Domain[1:]
		}
	case "path":
		h.Path = ""
		if value != "" && value[0] == '/' {
			h.Path = value
		}
	case "secure":
		h.Secure = true
	case "httponly":
		h.HttpOnly = true
	case "samesite":
		h.Same = map[string]int{"none": 1, "lax": 2, "strict": 3}[lower(value)]
	}
}

func parsed(s string) (api.Header, api.Errno) {
	if controlForm.MatchString(s) {
		return api.Header{}, api.ErrControl
	}
	var h api.Header
	for i, piece := range strings.Split(s, ";") {
		parts := signForm.FindStringSubmatch(piece)
		switch {
		case i > 0 && len(parts[3]) <= 1024:
			attributeRead(&h, parts[1], parts[3])
		case i == 0 && parts[2] == "":
			h.Value = parts[1]
		case i == 0:
			h.Name, h.Value = parts[1], parts[3]
		}
	}
	switch size := len(h.Name + h.Value); {
	case size == 0:
		return api.Header{}, api.ErrEmpty
	case size > 4096:
		return api.Header{}, api.ErrSize
	}
	return h, api.OK
}

// rightRead says once more which headers can be, field by field.
func rightRead(h api.Header) bool {
	for _, s := range []string{h.Name, h.Value, h.Domain, h.Path} {
		if controlForm.MatchString(s) || strings.Contains(s, ";") || strings.TrimRight(s, " \t") != s {
			return false
		}
	}
	room := 1024
	if h.Domain != "" && strings.Contains(". \t", h.Domain[:1]) {
		room--
	}
	ages, dates := h.HasAge || h.Age == 0, h.HasExpires || h.Expires == 0
	pair := len(h.Name+h.Value) > 0 && len(h.Name+h.Value) <= 4096 && !strings.Contains(h.Name, "=") && strings.TrimLeft(h.Name, " \t") == h.Name && strings.TrimLeft(h.Value, " \t") == h.Value
	numbers := h.Age >= 0 && h.Age <= 34560000 && h.Expires >= firstMoment && h.Expires <= lastMoment && h.Same >= 0 && h.Same <= 3
	texts := len(h.Domain) <= room && lower(h.Domain) == h.Domain && len(h.Path) <= 1024 && (h.Path == "" || h.Path[0] == '/')
	return ages && dates && pair && numbers && texts
}

// manyTexts have pairs and attributes of all kinds, whole and broken.
func manyTexts() []string {
	all := sample.Texts(6, "a", "=", ";", " ", "\x00", "Path", "/")
	all = append(all, sample.Texts(4, "a=b", ";", "; ", "Domain", "Path", "=", ".", "/x", "SECURE", "\t", "\xff", "Max-Age=", "1", "-")...)
	for _, s := range sample.Texts(4, " ", "=", ".", "/", "-", "0", "5", "X", "\xff", "none") {
		for _, key := range []string{"max-age", "domain", "Path", "samesite", "Secure", "httponly"} {
			all = append(all, "a=b;"+key+"="+s, "a=b;"+key+s)
		}
	}
	var attributes []string
	for _, one := range keys {
		attributes = append(attributes, ";"+one.key+"="+one.value, ";"+strings.ToLower(one.key))
	}
	for _, s := range sample.Texts(4, attributes...) {
		all = append(all, "a=b"+s)
	}
	return all
}

func TestManyTexts(t *testing.T) {
	right := 0
	for _, s := range manyTexts() {
		want, code := parsed(s)
		if h, e := header.Parse(s); h != want || e != code {
			t.Fatalf("Parse(%q) = %s, %d, not %s, %d", s, shown(h), e, shown(want), code)
		}
		if code == api.OK {
			right++
			isAgain(t, want)
		}
	}
	if right < 10000 {
		t.Errorf("only %d of the texts are headers", right)
	}
}

// P8.3

// isAgain: does Parse of a header's Text answer it?
func isAgain(t *testing.T, h api.Header) {
	t.Helper()
	if !header.Right(h) {
		t.Fatalf("Right(%s) is false", shown(h))
	}
	if again, e := header.Parse(header.Text(h)); again != h || e != api.OK {
		t.Fatalf("Parse(%q) = %s, %d, not %s", header.Text(h), shown(again), e, shown(h))
	}
}

func TestExample(t *testing.T) {
	h, e := header.Parse("a=b; path=/x; MAX-AGE=5; Secure")
	if e != api.OK {
		t.Error(e)
	}
	isWritten(t, h, "a=b; Max-Age=5; Path=/x; Secure")
}

func TestText(t *testing.T) {
	isWritten(t, api.Header{Name: "a", Value: "b"}, "a=b")
	isWritten(t, api.Header{Name: "a"}, "a=")
	isWritten(t, api.Header{Value: "b"}, "=b")
	isWritten(t, api.Header{Value: "a=b"}, "=a=b")
	isWritten(t, api.Header{Value: "="}, "==")
	isWritten(t, api.Header{Value: "Secure"}, "=Secure")
	isWritten(t, api.Header{Name: "a b", Value: "c\td"}, "a b=c\td")
	all := api.Header{
		Name: "a", Value: "b", Domain: "x.com", Path: "/p", HasExpires: true, Expires: 784111777, HasAge: true, Age: 34560000, Secure: true, HttpOnly: true, Same: api.SameStrict,
	}
	isWritten(t, all, "a=b; Expires=Sun, 06 Nov 1994 08:49:37 GMT; Max-Age=34560000; Domain=x.com; Path=/p; Secure; HttpOnly; SameSite=Strict")
	for same, text := range map[int]string{api.SameDefault: "a=b", api.SameNone: "a=b; SameSite=None", api.SameLax: "a=b; SameSite=Lax", api.SameStrict: "a=b; SameSite=Strict"} {
		isWritten(t, api.Header{Name: "a", Value: "b", Same: same}, text)
	}
	for age, text := range map[int64]string{0: "0", 1: "1", 10: "10", 3600: "3600", 34560000: "34560000"} {
		isWritten(t, api.Header{Name: "a", Value: "b", HasAge: true, Age: age}, "a=b; Max-Age="+text)
	}
	for domain, text := range map[string]string{"x": "x", "x.": "x.", ".": "..", ".x": "..x", "..x": "...x", " x": ". x", "\tx": ".\tx", " .x": ". .x", ". x": ".. x", "x y": "x y", "=": "=", "\xff": "\xff", "\u00c4": "\u00c4", of(1024, "x"): of(1024, "x"), of(1023, "."): of(1024, "."), " " + of(1022, "x"): ". " + of(1022, "x")} {
		isWritten(t, api.Header{Name: "a", Value: "b", Domain: domain}, "a=b; Domain="+text)
	}
	for _, path := range []string{"/", "//", "/x y", "/=", "/\xff", "/" + of(1023, "x")} {
		isWritten(t, api.Header{Name: "a", Value: "b", Path: path}, "a=b; Path="+path)
	}
	for moment, text := range map[int64]string{0: "Thu, 01 Jan 1970 00:00:00 GMT", -1: "Wed, 31 Dec 1969 23:59:59 GMT", firstMoment: "Mon, 01 Jan 1601 00:00:00 GMT", lastMoment: "Fri, 31 Dec 9999 23:59:59 GMT"} {
		isWritten(t, api.Header{Name: "a", Value: "b", HasExpires: true, Expires: moment}, "a=b; Expires="+text)
	}
	for _, size := range []int{0, 1, 2000, 4095, 4096} {
		isWritten(t, api.Header{Name: of(size, "n"), Value: of(4096-size, "v")}, of(size, "n")+"="+of(4096-size, "v"))
	}
}

// rights are headers with each thing that a field may hold, in all rows.
func rights() []api.Header {
	var all []api.Header
	for _, pair := range []api.Header{{Name: "a", Value: "b"}, {Name: "a"}, {Value: "b=c"}, {Name: "\xff a", Value: "=\t="}} {
		for _, domain := range []string{"", "x.com", ".x", "\tx", "="} {
			for _, path := range []string{"", "/", "/p q="} {
				for _, expires := range []int64{-1, 0, lastMoment, lastMoment + 1} {
					for _, age := range []int64{-1, 0, 7, 34560000} {
						for bits := range 16 {
							h := pair
							h.Domain, h.Path, h.Secure, h.HttpOnly, h.Same = domain, path, bits&1 > 0, bits&2 > 0, bits>>2
							if age >= 0 {
								h.HasAge, h.Age = true, age
							}
							if expires <= lastMoment {
								h.HasExpires, h.Expires = true, expires
							}
							all = append(all, h)
						}
					}
				}
			}
		}
	}
	return all
}

// written says once more what the chapter says of the Text of one that is Right.
func written(h api.Header) string {
	s := h.Name + "=" + h.Value
	if h.HasExpires {
		s += "; Expires=" + date.Text(h.Expires)
	}
	if h.HasAge {
		s += fmt.Sprint("; Max-Age=", h.Age)
	}
	if h.Domain != "" {
		s += "; Domain="
		if c := h.Domain[0]; c == '.' || c == 32 || c == 9 {
			s += "."
		}
		s += h.Domain
	}
	if h.Path != "" {
		s += "; Path=" + h.Path
	}
	if h.Secure {
		s += "; Secure"
	}
	if h.HttpOnly {
		s += "; HttpOnly"
	}
	return s + []string{"", "; SameSite=None", "; SameSite=Lax", "; SameSite=Strict"}[h.Same]
}

func TestTextOfManyHeaders(t *testing.T) {
	for _, h := range rights() {
		if got, want := header.Text(h), written(h); got != want || !rightRead(h) {
			t.Fatalf("Text(%s) = %q, not %q", shown(h), got, want)
		}
		isAgain(t, h)
	}
}

// A field that no text tells makes any header wrong.
func TestWrongFields(t *testing.T) {
	isWrong(t, api.Header{})
	isWrong(t, api.Header{Domain: "x", Path: "/", Secure: true, HttpOnly: true, Same: 1, HasAge: true, HasExpires: true})
	for i, h := range rights() {
		if i%37 > 0 {
			continue
		}
		for _, s := range []string{" ", "\t", " a", "a ", "\ta", "a\t", ";", "a;", ";a", "a;b", "a; Secure", "\x00", "a\n", "\x7f", "a\x1fb", of(4097, "x")} {
			wrong := h
			wrong.Name = s
			isWrong(t, wrong)
			wrong = h
			wrong.Value = s
			isWrong(t, wrong)
			wrong.Name, wrong.Value = "", s
			isWrong(t, wrong)
		}
		for _, s := range []string{"=", "a=", "=a", "a=b"} {
			wrong := h
			wrong.Name = s
			isWrong(t, wrong)
		}
		for _, s := range []string{" ", "\t", "x ", ". ", "X", "x.Com", ";", "x;", "x; Secure", "x;Domain=x", "\x00", "x\ny", "\x7f", of(1025, "x"), "." + of(1023, "x"), "\t" + of(1023, "x"), of(1024, ".")} {
			wrong := h
			wrong.Domain = s
			isWrong(t, wrong)
		}
		for _, s := range []string{" ", "x", "x/", " /", "\t/", "/ ", "/x\t", ";", "/;", "/; Path=/", "/x;Secure", "/\x00", "/\r", "/\x7f", "/" + of(1024, "x")} {
			wrong := h
			wrong.Path = s
			isWrong(t, wrong)
		}
		for _, n := range []int64{-1, 34560001, 1 << 32, 1<<32 + 5, math.MaxInt64, math.MinInt64} {
			wrong := h
			wrong.HasAge, wrong.Age = true, n
			isWrong(t, wrong)
			wrong.HasAge = false
			isWrong(t, wrong)
		}
		for _, n := range []int64{firstMoment - 1, lastMoment + 1, 1 << 60, math.MaxInt64, math.MinInt64} {
			wrong := h
			wrong.HasExpires, wrong.Expires = true, n
			isWrong(t, wrong)
			wrong.HasExpires = false
			isWrong(t, wrong)
		}
		for _, n := range []int64{-1, 1, 5, 34560000, firstMoment, lastMoment} {
			wrong := h
			wrong.HasExpires, wrong.Expires = false, n
			isWrong(t, wrong)
			wrong = h
			wrong.HasAge, wrong.Age = false, n
			isWrong(t, wrong)
		}
		for _, n := range []int{-1, -2, -3, 4, 5, 256, 1 << 32, 1<<32 + 1, math.MaxInt, math.MinInt, math.MinInt + 1} {
			wrong := h
			wrong.Same = n
			isWrong(t, wrong)
		}
	}
}

// isRightOf: is it Right just as the chapter tells once more?
func isRightOf(t *testing.T, h api.Header) {
	t.Helper()
	if !rightRead(h) {
		isWrong(t, h)
		return
	}
	isWritten(t, h, written(h))
}

func TestRightOfEachByte(t *testing.T) {
	eachByte(func(_ int, s string) {
		for _, text := range []string{s, s + "x", "x" + s, "x" + s + "y", s + s, "/" + s, "/" + s + "x", "." + s, "." + s + "x"} {
			isRightOf(t, api.Header{Name: text})
			isRightOf(t, api.Header{Value: text})
			isRightOf(t, api.Header{Name: "a", Value: text})
			isRightOf(t, api.Header{Name: text, Value: "b"})
			isRightOf(t, api.Header{Name: "a", Domain: text})
			isRightOf(t, api.Header{Name: "a", Path: text})
		}
	})
}

func TestRightOfEachSize(t *testing.T) {
	for _, ahead := range []string{"", ".", "..", " ", "\t", "x", "/", "\xff"} {
		for size := 1015; size <= 1030; size++ {
			text := ahead + of(size-len(ahead), "x")
			isRightOf(t, api.Header{Name: "a", Domain: text})
			isRightOf(t, api.Header{Name: "a", Path: text})
			isRightOf(t, api.Header{Name: "a", Path: "/" + text[1:]})
		}
		for size := 4090; size <= 4100; size++ {
			for name := 0; name <= size; name += 409 {
				isRightOf(t, api.Header{Name: of(name, "n"), Value: of(size-name, "v"), Domain: ahead})
			}
		}
	}
}

// What Right tells of short texts is just what Parse answers of some text.
func TestRightIsWhatParseAnswers(t *testing.T) {
	parts := []string{"a", "A", "=", ";", " ", "\t", ".", "/", "\x00", "\xff"}
	pairs, domains, paths := map[[2]string]bool{}, map[string]bool{}, map[string]bool{}
	for _, s := range sample.Texts(5, parts...) {
		if h, e := header.Parse(s); e == api.OK {
			pairs[[2]string{h.Name, h.Value}] = true
		}
		if h, e := header.Parse("a=b;Domain=" + s); e == api.OK {
			domains[h.Domain] = true
		}
		if h, e := header.Parse("a=b;Path=" + s); e == api.OK {
			paths[h.Path] = true
		}
	}
	check := func(h api.Header, want bool) {
		if header.Right(h) != want || (header.Text(h) != "") != want || rightRead(h) != want {
			t.Fatalf("Right(%s) isn't %v, or Text is %q", shown(h), want, header.Text(h))
		}
	}
	for _, a := range sample.Texts(2, parts...) {
		for _, b := range sample.Texts(2, parts...) {
			check(api.Header{Name: a, Value: b}, pairs[[2]string{a, b}])
		}
	}
	for _, s := range sample.Texts(4, parts...) {
		check(api.Header{Value: s}, pairs[[2]string{"", s}])
		check(api.Header{Name: s}, pairs[[2]string{s, ""}])
		check(api.Header{Name: "a", Value: "b", Domain: s}, domains[s])
		check(api.Header{Name: "a", Value: "b", Path: s}, paths[s])
	}
}

func TestRightOfEachMoment(t *testing.T) {
	for moment := int64(firstMoment); moment <= lastMoment; moment += 29*86400*3 + 3607 {
		isRightOf(t, api.Header{Name: "a", HasExpires: true, Expires: moment})
	}
	for near := int64(-50); near <= 50; near++ {
		for _, moment := range []int64{firstMoment, 0, lastMoment} {
			isRightOf(t, api.Header{Name: "a", HasExpires: true, Expires: moment + near})
			isRightOf(t, api.Header{Name: "a", Expires: moment + near})
		}
		for _, age := range []int64{0, 34560000, 1 << 32} {
			isRightOf(t, api.Header{Name: "a", HasAge: true, Age: age + near})
			isRightOf(t, api.Header{Name: "a", Age: age + near})
		}
		isRightOf(t, api.Header{Name: "a", Same: int(near)})
	}
}

// P1, P2

// answers writes down what all calls say of a text, and of headers made of it.
func answers(s string) string {
	h, e := header.Parse(s)
	all := fmt.Sprintf("%+v %d", h, e)
	for _, one := range []api.Header{h, {Name: s, Value: "b"}, {Value: s, Same: len(s)}, {Name: "a", Domain: s}, {Name: "a", Path: s, HasAge: true, Age: int64(len(s)) - 2}} {
		all += fmt.Sprintf("%q %v", header.Text(one), header.Right(one))
	}
	return all
}

func TestAnswersHangOnArgumentsAlone(t *testing.T) {
	all := sample.Texts(5, "a", "=", ";", " ", "Path=", "/", "\xff", "Max-Age=5")
	for _, s := range sample.Unsteady(all, answers) {
		t.Errorf("%q: two answers", s)
	}
}

func TestGreatTexts(t *testing.T) {
	const size = 1 << 20
	for unit, want := range map[string]api.Errno{
		"x": api.ErrSize, ".": api.ErrSize, "=": api.ErrSize, "-1": api.ErrSize, "\xff": api.ErrSize, " x": api.ErrSize,
		";": api.ErrEmpty, " ": api.ErrEmpty, "\t": api.ErrEmpty, "; ": api.ErrEmpty, ";=": api.ErrEmpty, ";x": api.ErrEmpty, " ;Path=/x": api.ErrEmpty, ";Domain": api.ErrEmpty,
		"\x00": api.ErrControl, "\n": api.ErrControl, ";\x7f": api.ErrControl,
	} {
		s := of(size/len(unit), unit)
		isNone(t, s, want)
		for _, h := range []api.Header{{Name: s}, {Value: s}, {Name: s, Value: s}, {Name: "a", Domain: s}, {Name: "a", Path: s}, {Name: "a", Path: "/" + s}} {
			isWrong(t, h)
		}
	}
	pair := api.Header{Name: "a", Value: "b"}
	for _, unit := range []string{"x", "=", " ", "\t", ";", "; ", ";=", ";x", "\xff", "; Max-Age ", ";Expires=1 jan 1970"} {
		is(t, "a=b;"+of(size/len(unit), unit), pair)
		is(t, "a=b "+of(size, " ")+";"+of(size/len(unit), unit)+";Path=/x", api.Header{Name: "a", Value: "b", Path: "/x"})
	}
	for _, unit := range []string{"x", "=", "/", ".", "9", "0", "-", "\xff", "1 jan 1970 0:0:0"} {
		for _, key := range []string{"Expires", "Max-Age", "Domain", "Path", "Secure", "HttpOnly", "SameSite", "x"} {
			is(t, "a=b;"+key+"="+of(size/len(unit), unit), pair)
		}
	}
	is(t, "a=b"+of(size/9, "; Path=/x"), api.Header{Name: "a", Value: "b", Path: "/x"})
	is(t, "a=b"+of(size/10, ";Domain=.X"), api.Header{Name: "a", Value: "b", Domain: "x"})
	is(t, "a=b"+of(size/10, ";Max-Age=9"), api.Header{Name: "a", Value: "b", HasAge: true, Age: 9})
	is(t, "a=b"+of(size/25, ";Expires=1 jan 1970 0:0:1"), api.Header{Name: "a", Value: "b", HasExpires: true, Expires: 1})
}
