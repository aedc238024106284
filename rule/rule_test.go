package rule_test

import (
	"fmt"
	"regexp"
	"slices"
	"strconv"
	"strings"
	"testing"

	"cracknel/api"
	"cracknel/host"
	"cracknel/rule"
	"cracknel/sample"
)

// The kinds, by the numbers that the chapter gives them.
const (
	plainKind  = 1
	wildKind   = 2
	exceptKind = 3
)

// marks are what stands ahead of a rule's name, by its kind.
var marks = map[int]string{plainKind: "", wildKind: "*.", exceptKind: "!"}

// nameOf has so many bytes, and labels of at most 63.
func nameOf(size int) string {
	return strings.Repeat("a.", (size-1)/2) + "bb"[:2-size%2]
}

func is(t *testing.T, s string, want api.Rule) {
	t.Helper()
	if r, says, e := rule.Line(s); r != want || !says || e != api.OK {
		t.Errorf("Line(%.300q) = %v, %v, %d, not %v", s, r, says, e, want)
	}
}

func isNone(t *testing.T, s string) {
	t.Helper()
	if r, says, e := rule.Line(s); r != (api.Rule{}) || says || e != 51 {
		t.Errorf("Line(%.300q) = %v, %v, %d, not ErrRule", s, r, says, e)
	}
}

func isSilent(t *testing.T, s string) {
	t.Helper()
	if r, says, e := rule.Line(s); r != (api.Rule{}) || says || e != api.OK {
		t.Errorf("Line(%.300q) = %v, %v, %d, but it says nothing", s, r, says, e)
	}
}

func isFile(t *testing.T, s string, want ...api.Rule) {
	t.Helper()
	if rules, f := rule.File(s); !slices.Equal(rules, want) || f != (api.Fault{}) {
		t.Errorf("File(%.300q) = %v, %v, not %v", s, rules, f, want)
	}
}

func isFaulty(t *testing.T, s string, code api.Errno, line, col int) {
	t.Helper()
	want := api.Fault{Code: code, Line: line, Col: col}
	if rules, f := rule.File(s); len(rules) != 0 || f != want {
		t.Errorf("File(%.300q) = %v, %v, not %v", s, rules, f, want)
	}
}

// P5.1

func TestLine(t *testing.T) {
	for name, want := range map[string]string{
		"a.b": "a.b", "co.uk": "co.uk", "Co.UK": "co.uk", "A.B": "a.b", "a.b.example.com": "a.b.example.com", "EXAMPLE.cOm": "example.com",
		"1.a": "1.a", "1.2.3.a": "1.2.3.a", "-._": "-._", "_Dmarc.x-Y": "_dmarc.x-y", "xn--55qx5d.CN": "xn--55qx5d.cn", "a.a.a": "a.a.a", "a.1b": "a.1b",
		nameOf(252): nameOf(252), nameOf(253): nameOf(253), strings.ToUpper(nameOf(253)): nameOf(253), strings.Repeat("A", 63) + ".b": strings.Repeat("a", 63) + ".b",
	} {
		for kind, mark := range marks {
			for _, ahead := range []string{"", " ", "\t", "  \t ", "\t\t"} {
				for _, behind := range []string{"", " ", "\t", " \t\t ", " // x", "\t// x", " x", "\tx y", " b.c", " !b.c", "\t*.b.c", " *", " //", " \xff", "\t\x00", " \n", " ä "} {
					is(t, ahead+mark+name+behind, api.Rule{Kind: kind, Name: want})
				}
			}
		}
	}
}

func TestLinesOfOneLabel(t *testing.T) {
	for _, name := range []string{"com", "Com", "a", "UK", "-", "_", "1a", "a1", "xn--p1ai", strings.Repeat("a", 63)} {
		for _, line := range []string{name, " " + name, name + "\t", "\t" + name + " // x"} {
			is(t, line, api.Rule{Kind: plainKind, Name: strings.ToLower(name)})
		}
		for _, line := range []string{"*." + name, " *." + name, "*." + name + "\t", "\t*." + name + " // x"} {
			is(t, line, api.Rule{Kind: wildKind, Name: strings.ToLower(name)})
		}
		// Of an exception a label must be left.
		for _, line := range []string{"!" + name, " !" + name, "!" + name + "\t", "\t!" + name + " // x", "!" + name + " a.b"} {
			isNone(t, line)
		}
	}
}

func TestLinesThatSayNothing(t *testing.T) {
	for _, line := range []string{
		"", " ", "\t", "  ", " \t", "\t \t ", strings.Repeat(" ", 1000), strings.Repeat("\t", 1000),
		"//", "// ", "//\t", " //", "\t//", " \t// ", "///", "////", "// /", "//com", "// com", "//\tcom", "  // com", "\t// *.a.b  ", "//!", "//*", "// a b c", "//\xff", "//\x00\n\r", "//ä", "//" + nameOf(300), "// // //",
	} {
		isSilent(t, line)
	}
}

func TestLinesThatAreNoRules(t *testing.T) {
	for _, line := range []string{
		// A mark, and no name behind it.
		"!", "*.", "*", ".", "..", " !", "\t*. ", " * ", "! a.b", "!\ta.b", "*. a.b", "*.\ta.b", "* .a.b", "* a.b", "*a.b", "*a", "a*", "a.*", "a.*.b", "*.a.*", "**.a.b", "*..a.b", "*.*", "*!", "!*",
		// More than one mark.
		"!!", "!!a.b", "!!!a.b", "! !a.b", "*.*.", "*.*.a.b", "*.*.*.a", "!*.", "!*.a.b", "*.!", "*.!a.b", "!*a.b", "*!.a.b", "*!a.b", "a!b", "a.b!", "a.b*", "a.b.*", "!a.!b",
		// What would be a remark, if it began with both slashes.
		"/", "/ /", "/a", "/ a", "a/", "a//", "a.b//", "a//b", "a.b// x", "/ // a", "!//", "*.//", "!a.b//", "*.a//x", "\\\\a",
		// What layer 3 has no name in.
		"a.", ".a", "a..b", ".a.b", "a.b.", "a..", "a,b", "a;b", "a:80", "a@b", "a+b", "a=b", "a%20b", "a#b", "#", "#a", "-/- x", "a'", "\"a\"", "(a)", "<a>", "[", "]", "[]", "a[", "http://a.b", "a?b",
		"\xff", "ä", "bücher.de", "a\x00", "\x00", "\n", "a\n", "\na", "a\r", "\r", "a\nb", "a.b\n// x", "\v", "a\v", "\fa.b", "\u00a0", "a\u00a0", "\u00a0a.b", "\u2003//", "a\x7f", "\x1fa", "a。b", "\ufeffa.b", "\ufeff//",
		strings.Repeat("a", 64), strings.Repeat("a", 64) + ".b", "b." + strings.Repeat("a", 64), strings.Repeat("!", 300), strings.Repeat("*.", 200), "/" + strings.Repeat("a", 300),
		// What layer 3 reads as an address, or would.
		"1", "0", "1.2.3.4", "0.0.0.0", "255.255.255.255", "1.2.3", "256.2.3.4", "1.2.3.4.5", "a.1", "a.b.c.1", "a.00", "[::1]", "[::]", "[1:2:3:4:5:6:7:8]", "[2001:db8::1]", "[::g]", "::1", "[::1",
	} {
		isNone(t, line)
	}
}

// What is no name, or an address, is none behind a mark too.
func TestMarksWithoutNames(t *testing.T) {
	for _, mark := range marks {
		for _, name := range []string{
			"", ".", "..", "a.", ".a", "a..b", "a.b.", ".a.b", "1", "a.1", "1.2", "1.2.3.4", "0.0.0.0", "1.2.3.4.5", "256.1.1.1", "[::1]", "[::]", "[2001:DB8::1]", "[a.b]", "a:b", "a.b:80", "a/b", "a.b/", "a.b//x", "ä.b", "a.b\xff", "a.\x00", "*.", "!", "*.a.b", "!a.b", "*",
			nameOf(254), nameOf(255), nameOf(1000), strings.ToUpper(nameOf(254)), strings.Repeat("a", 64) + ".b", "a." + strings.Repeat("b", 64),
		} {
			if mark+name == "" || mark == "" && (strings.HasPrefix(name, "*.a") || strings.HasPrefix(name, "!a")) {
				continue
			}
			for _, behind := range []string{"", " ", "\t", " a.b", "\t// x"} {
				isNone(t, mark+name+behind)
				isNone(t, " \t"+mark+name+behind)
			}
		}
	}
}

func TestLongestNames(t *testing.T) {
	for size := 3; size < 260; size++ {
		for kind, mark := range marks {
			if size <= 253 {
				is(t, mark+nameOf(size), api.Rule{Kind: kind, Name: nameOf(size)})
			} else {
				isNone(t, mark+nameOf(size))
			}
		}
	}
}

// What stands behind the first blank is not looked at, whatever it is.
func TestEachByteOfLines(t *testing.T) {
	for c := range 256 {
		s := string([]byte{byte(c)})
		blank := c == 32 || c == 9
		ofName := regexp.MustCompile(`^[A-Za-z0-9_-]$`).MatchString(s)
		low := strings.ToLower(s)
		for kind, mark := range marks {
			is(t, mark+"a.b "+s, api.Rule{Kind: kind, Name: "a.b"})
			is(t, mark+"a.b\t"+s+" x", api.Rule{Kind: kind, Name: "a.b"})
			switch {
			case blank:
				is(t, s+mark+"a.b", api.Rule{Kind: kind, Name: "a.b"})
				is(t, mark+"a.b"+s, api.Rule{Kind: kind, Name: "a.b"})
				is(t, mark+"a.b"+s+"c", api.Rule{Kind: kind, Name: "a.b"})
			case ofName:
				is(t, mark+s+"a.b", api.Rule{Kind: kind, Name: low + "a.b"})
				is(t, mark+"a.b"+s+"c", api.Rule{Kind: kind, Name: "a.b" + low + "c"})
			case s == ".":
				is(t, mark+"a.b"+s+"c", api.Rule{Kind: kind, Name: "a.b.c"})
				isNone(t, mark+s+"a.b")
				isNone(t, mark+"a.b"+s)
			case mark+s == "!":
				is(t, s+"a.b", api.Rule{Kind: exceptKind, Name: "a.b"})
			default:
				isNone(t, mark+s+"a.b")
				isNone(t, mark+"a.b"+s)
				isNone(t, mark+"a.b"+s+"c")
			}
		}
		isSilent(t, "//"+s)
		isSilent(t, " //x"+s+"y")
	}
}

var lineForm = regexp.MustCompile(`(?s)^[ \t]*(?:(//.*)?|(!|\*\.)?([^ \t]+)(?:[ \t].*)?)$`)

// lineRead says once more what the chapter says of a line, with the library's
// means.
func lineRead(s string) (api.Rule, bool, api.Errno) {
	parts := lineForm.FindStringSubmatch(s)
	if parts[3] == "" {
		return api.Rule{}, false, 0
	}
	kind := plainKind
	for k, mark := range marks {
		if mark == parts[2] {
			kind = k
		}
	}
	h, e := host.Parse(parts[3])
	if e != api.OK || h.Kind != api.HostName || kind == exceptKind && !strings.Contains(h.Name, ".") {
		return api.Rule{}, false, 51
	}
	return api.Rule{Kind: kind, Name: h.Name}, true, 0
}

func manyLines() []string {
	all := sample.Texts(6, "!", "*", ".", "a", "B", " ", "/", "1")
	all = append(all, sample.Texts(5, "!", "*.", "a.b", "C", "\t", "//", "1.2.3.4", "[::1]", ".", "\xff")...)
	for _, s := range sample.Texts(4, "!", "*.", "a.", strings.Repeat("B", 61)+".", strings.Repeat("c.", 33), " ") {
		all = append(all, s, s+"d", s+"d ")
	}
	return all
}

func TestManyLines(t *testing.T) {
	for _, s := range manyLines() {
		want, wantSays, wantCode := lineRead(s)
		r, says, e := rule.Line(s)
		if r != want || says != wantSays || e != wantCode {
			t.Fatalf("Line(%q) = %v, %v, %d, not %v, %v, %d", s, r, says, e, want, wantSays, wantCode)
		}
		if says {
			is(t, rule.Text(r), r)
		}
	}
}

// P5.2

// rulesOf answers so many rules, and the text of a file that has them, a line
// each. Two and two have one name, and all three kinds are among them.
func rulesOf(n int) ([]api.Rule, string) {
	var rules []api.Rule
	var text strings.Builder
	for i := range n {
		r := api.Rule{Kind: i%3 + 1, Name: "a.b" + strconv.Itoa(i/2)}
		rules = append(rules, r)
		text.WriteString(marks[r.Kind] + r.Name + "\n")
	}
	return rules, text.String()
}

func TestFile(t *testing.T) {
	a, wild, except := api.Rule{Kind: plainKind, Name: "com"}, api.Rule{Kind: wildKind, Name: "ck"}, api.Rule{Kind: exceptKind, Name: "www.ck"}
	for _, end := range []string{"\n", "\r\n"} {
		for _, last := range []string{"", "\r", end, end + end, end + " \t" + end, end + "// end", end + "//" + end, end + "\r"} {
			isFile(t, "Com"+end+"*.ck"+end+"!www.CK"+last, a, wild, except)
			isFile(t, "!www.ck  // this one not"+end+"com"+end+"*.ck"+last, except, a, wild)
			isFile(t, "// all"+end+end+"\tcom x"+end+" \t "+end+" *.ck"+end+"//!www.ck"+last, a, wild)
			isFile(t, end+end+"!www.ck\t// y"+last, except)
			isFile(t, "com"+last, a)
			isFile(t, last)
			isFile(t, "//"+last)
		}
	}
	isFile(t, "com\r\n*.ck\n\r\n!www.ck\r\n", a, wild, except)
	isFile(t, "com\n*.ck\r\n!www.ck\r", a, wild, except)
	isFile(t, "")
	isFile(t, " ")
	isFile(t, "com", a)
	isFile(t, "com \r", a)
	isFile(t, "com \r\r", a)
	isFile(t, "// \r\rcom\n*.ck", wild)
}

// A byte 13 is taken from a line's end once, and is no blank elsewhere.
func TestReturnsInFiles(t *testing.T) {
	isFaulty(t, "com\r\r\n", api.ErrRule, 1, 1)
	isFaulty(t, "a\ncom\r\r", api.ErrRule, 2, 1)
	isFaulty(t, "a\n\r\r\n", api.ErrRule, 2, 1)
	isFaulty(t, "a\n \r\r", api.ErrRule, 2, 2)
	isFaulty(t, "a\n\rb\n", api.ErrRule, 2, 1)
	isFaulty(t, "a\rb", api.ErrRule, 1, 1)
	isFaulty(t, "\rb", api.ErrRule, 1, 1)
	isFaulty(t, "a\vb\n", api.ErrRule, 1, 1)
}

func TestLongFiles(t *testing.T) {
	com := api.Rule{Kind: plainKind, Name: "com"}
	for size, long := range map[int]bool{19999: false, 20000: false, 20001: true, 20002: true, 40000: true, 1 << 20: true} {
		for _, s := range []string{
			strings.Repeat("\n", size), strings.Repeat(" ", size), strings.Repeat("/", size), strings.Repeat("\n", size-3) + "//x",
		} {
			if long {
				isFaulty(t, s, api.ErrLong, 1, 1)
			} else {
				isFile(t, s)
			}
		}
		for _, s := range []string{
			"com\n" + strings.Repeat("\n", size-4), "com " + strings.Repeat("x", size-4), strings.Repeat(" ", size-3) + "com", strings.Repeat("\n", size-5) + "com\r\n", "com" + strings.Repeat("\n\r", (size-3)/2) + "\n"[:(size-3)%2],
		} {
			if len(s) != size {
				t.Fatalf("a text of %d bytes, not %d", len(s), size)
			}
			if long {
				isFaulty(t, s, api.ErrLong, 1, 1)
			} else {
				isFile(t, s, com)
			}
		}
		// Whatever else is wrong with a long text.
		for _, s := range []string{"*\n" + strings.Repeat("\n", size-2), " *\n" + strings.Repeat("/", size-3), "  *" + strings.Repeat("x", size-3)} {
			if long {
				isFaulty(t, s, api.ErrLong, 1, 1)
			} else {
				isFaulty(t, s, api.ErrRule, 1, strings.Index(s, "*")+1)
			}
		}
	}
	isFaulty(t, "a\na\n"+strings.Repeat("x", 20000), api.ErrLong, 1, 1)
	isFaulty(t, "\n\n\t*"+strings.Repeat(" ", 20000), api.ErrLong, 1, 1)
	isFaulty(t, strings.Repeat("\n", 19999)+"*", api.ErrRule, 20000, 1)
	isFaulty(t, strings.Repeat(" ", 19999)+"*", api.ErrRule, 1, 20000)
	_, many := rulesOf(300)
	isFaulty(t, many+strings.Repeat("\n", 20001-len(many)), api.ErrLong, 1, 1)
	isFaulty(t, many+strings.Repeat("\n", 20000-len(many)), api.ErrMany, 201, 1)
}

func TestLinesOfFilesThatAreNoRules(t *testing.T) {
	for _, line := range []string{"*", "!", "*.", "!com", "1.2.3.4", "[::1]", "a.", "!!a.b", "*.*.a", "/", "ä", nameOf(254), "* // x", "!a b.c"} {
		for _, blanks := range []string{"", " ", "\t", "  ", " \t ", strings.Repeat("\t", 50)} {
			col := len(blanks) + 1
			isFaulty(t, blanks+line, api.ErrRule, 1, col)
			isFaulty(t, blanks+line+"\r\n", api.ErrRule, 1, col)
			isFaulty(t, "com\n"+blanks+line+" \n*.ck\n", api.ErrRule, 2, col)
			isFaulty(t, "// x\r\n\r\n \t\r\ncom\r\n"+blanks+line, api.ErrRule, 5, col)
			isFaulty(t, strings.Repeat("\n", 300)+blanks+line+"\n", api.ErrRule, 301, col)
		}
	}
}

func TestRulesThatStandAlready(t *testing.T) {
	for _, pair := range [][2]string{
		{"com", "com"}, {"com", "COM"}, {"Com", "cOM"}, {"com", "com // x"}, {"*.ck", "*.ck"}, {"*.ck", "*.CK"}, {"!www.ck", "!www.ck"}, {"!Www.ck", "!wWW.CK\tx"}, {"a.b.c", "A.b.C"}, {nameOf(253), strings.ToUpper(nameOf(253))},
	} {
		for _, between := range []string{"", "\n", "\r\n", "// x\n", "d\n", "*.d\n!d.e\n", " \n\t\n"} {
			line := strings.Count(between, "\n") + 2
			for _, blanks := range []string{"", " ", "\t \t"} {
				isFaulty(t, pair[0]+"\n"+between+blanks+pair[1], api.ErrTwice, line, len(blanks)+1)
				isFaulty(t, "\t"+pair[1]+" \r\n"+between+blanks+pair[0]+"\r\n*\n", api.ErrTwice, line, len(blanks)+1)
			}
		}
	}
	isFaulty(t, "com\ncom\ncom", api.ErrTwice, 2, 1)
	isFaulty(t, "a\nb\n b\n  a", api.ErrTwice, 3, 2)
}

// A rule is its Kind and its Name: others may stand beside it.
func TestRulesThatOnlyLookAlike(t *testing.T) {
	plain, wild, except := api.Rule{Kind: 1, Name: "a.b"}, api.Rule{Kind: 2, Name: "a.b"}, api.Rule{Kind: 3, Name: "a.b"}
	isFile(t, "a.b\n*.a.b\n!a.b", plain, wild, except)
	isFile(t, "!A.b\n*.a.B\na.b", except, wild, plain)
	isFile(t, "*.a.b\nA.B", wild, plain)
	isFile(t, "a.b\na.b.c\nb\na-b\nab", plain, api.Rule{Kind: 1, Name: "a.b.c"}, api.Rule{Kind: 1, Name: "b"}, api.Rule{Kind: 1, Name: "a-b"}, api.Rule{Kind: 1, Name: "ab"})
	isFile(t, "//a.b\na.b\n// a.b\n//a.b", plain)
	isFile(t, "\n\n \n\n//\n//\n// x\n// x\n")
	isFaulty(t, "a.b\n*.a.b\n!a.b\n\n*.a.b", api.ErrTwice, 5, 1)
}

func TestManyRules(t *testing.T) {
	for _, n := range []int{1, 2, 199, 200} {
		rules, text := rulesOf(n)
		isFile(t, text, rules...)
		isFile(t, strings.TrimSuffix(text, "\n"), rules...)
		isFile(t, strings.ReplaceAll(text, "\n", " // x\r\n"), rules...)
		isFile(t, strings.ReplaceAll(text, "\n", "\n//\n\n"), rules...)
	}
	for _, n := range []int{201, 202, 250, 400} {
		_, text := rulesOf(n)
		isFaulty(t, text, api.ErrMany, 201, 1)
		isFaulty(t, strings.ReplaceAll(text, "\n", "\n// x\n \t"), api.ErrMany, 401, 3)
	}
}

func TestBehindAllRules(t *testing.T) {
	all, text := rulesOf(200)
	for _, blanks := range []string{"", " ", "\t\t "} {
		col := len(blanks) + 1
		for _, kind := range []int{plainKind, wildKind, exceptKind} {
			isFaulty(t, text+blanks+marks[kind]+"one.more", api.ErrMany, 201, col)
			isFaulty(t, text+"\n//\n"+blanks+marks[kind]+"one.more x\r\n*", api.ErrMany, 203, col)
		}
		// What stands already is told ahead of there being too many.
		for _, at := range []int{0, 1, 2, 100, 199} {
			again := strings.ToUpper(marks[all[at].Kind] + all[at].Name)
			isFaulty(t, text+blanks+again, api.ErrTwice, 201, col)
			isFaulty(t, text+"\r\n"+blanks+again+"\none.more", api.ErrTwice, 202, col)
			isFaulty(t, text+"one.more\n"+blanks+again, api.ErrMany, 201, 1)
		}
		// And a line that is no rule is one that is none.
		for _, line := range []string{"*", "!com", "1.2.3.4", "a."} {
			isFaulty(t, text+blanks+line, api.ErrRule, 201, col)
			isFaulty(t, text+"// x\n"+blanks+line+"\none.more", api.ErrRule, 202, col)
			isFaulty(t, text+"one.more\n"+blanks+line, api.ErrMany, 201, 1)
		}
		// What says nothing may stand there.
		for _, line := range []string{"", "// one.more", "//", "// x\r\n//\n\n \t"} {
			isFile(t, text+blanks+line, all...)
			isFile(t, text+blanks+line+"\n", all...)
		}
	}
	// The last rule that may stand there stands already.
	_, text = rulesOf(199)
	isFaulty(t, text+"a.b0", api.ErrTwice, 200, 1)
	isFaulty(t, text+"one.more\ntwo.more", api.ErrMany, 201, 1)
}

func TestFirstFaults(t *testing.T) {
	isFaulty(t, "*\n!\n1", api.ErrRule, 1, 1)
	isFaulty(t, "com\n  *\ncom\n!", api.ErrRule, 2, 3)
	isFaulty(t, "com\n\tCOM\n *\n", api.ErrTwice, 2, 2)
	isFaulty(t, "com\n*\ncom", api.ErrRule, 2, 1)
	isFaulty(t, "com\ncom\n*", api.ErrTwice, 2, 1)
	isFaulty(t, "a\nb\n b\n*\na", api.ErrTwice, 3, 2)
	isFaulty(t, "*\n"+strings.Repeat("a\n", 300), api.ErrRule, 1, 1)
	_, many := rulesOf(201)
	isFaulty(t, "*\n"+many, api.ErrRule, 1, 1)
	isFaulty(t, many+"*\n", api.ErrMany, 201, 1)
	isFaulty(t, "!a.b1\n"+many, api.ErrTwice, 4, 1)
}

// fileRead says once more what the chapter says of a file.
func fileRead(s string) ([]api.Rule, api.Fault) {
	if len(s) > 20000 {
		return nil, api.Fault{Code: 54, Line: 1, Col: 1}
	}
	var rules []api.Rule
	for i, line := range strings.Split(strings.TrimSuffix(s, "\n"), "\n") {
		r, says, e := rule.Line(strings.TrimSuffix(line, "\r"))
		switch {
		case says && slices.Contains(rules, r):
			e = 52
		case says && len(rules) == 200:
			e = 53
		case says:
			rules = append(rules, r)
		}
		if e != 0 {
			col := strings.IndexFunc(line, func(c rune) bool { return c != 32 && c != 9 }) + 1
			return nil, api.Fault{Code: e, Line: i + 1, Col: col}
		}
	}
	return rules, api.Fault{}
}

func manyFiles() []string {
	all := sample.Texts(6, "a", "A", "!b.", "*.", "\n", "\r", "\t", "/")
	_, full := rulesOf(199)
	for _, s := range sample.Texts(4, "a", "C", "*.", "\n", " ", "//", "a.b0") {
		all = append(all, full+s)
	}
	return all
}

func TestManyFiles(t *testing.T) {
	for _, s := range manyFiles() {
		want, wantFault := fileRead(s)
		rules, f := rule.File(s)
		if !slices.Equal(rules, want) || f != wantFault {
			t.Fatalf("File(%q) = %v, %v, not %v, %v", s, rules, f, want, wantFault)
		}
		var again []string
		for _, r := range rules {
			again = append(again, rule.Text(r))
		}
		isFile(t, strings.Join(again, "\n"), rules...)
	}
}

func TestText(t *testing.T) {
	for _, name := range []string{"", "a", "com", "a.b.c", "A.B", "*.a", "!a", "//", " a ", "\n", "\xff\x00", "ä", nameOf(253), nameOf(254)} {
		for kind, want := range map[int]string{
			plainKind: name, wildKind: "*." + name, exceptKind: "!" + name,
			0: name, 4: name, 5: name, -1: name, -2: name, -3: name, 257: name, 258: name, 259: name, 1<<32 + 1: name, 1<<32 + 2: name, 1<<32 + 3: name, 1<<63 - 1: name, -1 << 63: name, -1<<63 + 2: name,
		} {
			if got := rule.Text(api.Rule{Kind: kind, Name: name}); got != want {
				t.Errorf("Text of Kind %d, %q = %q", kind, name, got)
			}
		}
	}
}

func TestTextIsALine(t *testing.T) {
	for _, name := range []string{"a.b", "co.uk", "1.a", "-._", nameOf(253)} {
		for kind := range marks {
			r := api.Rule{Kind: kind, Name: name}
			is(t, rule.Text(r), r)
			isFile(t, rule.Text(r), r)
		}
	}
}

// P1, P2

// answers writes down what all calls say of a text, and of the rules that it
// may be.
func answers(s string) string {
	r, says, e := rule.Line(s)
	rules, f := rule.File(s)
	all := fmt.Sprint(r, says, e, rules, f)
	for _, one := range append(rules, r, api.Rule{Kind: len(s), Name: s}) {
		all += fmt.Sprintf(" %q", rule.Text(one))
	}
	return all
}

func TestAnswersHangOnArgumentsAlone(t *testing.T) {
	all := sample.Texts(5, "!", "*.", "a", "b.C", "\n", " ", "//", "\xff")
	for _, n := range []int{199, 200, 201} {
		_, text := rulesOf(n)
		all = append(all, text, text+"*", text+"a.b0")
	}
	for _, s := range sample.Unsteady(all, answers) {
		t.Errorf("%.100q: two answers", s)
	}
}

func TestFilesAreNewMemory(t *testing.T) {
	want, text := rulesOf(200)
	one, _ := rule.File(text)
	other, _ := rule.File(text)
	for i := range one[:cap(one)] {
		one[:cap(one)][i] = api.Rule{Kind: 9, Name: "x"}
	}
	if slices.Contains(other[:cap(other)], api.Rule{Kind: 9, Name: "x"}) || !slices.Equal(other, want) {
		t.Errorf("rules shared: %v", other[:cap(other)])
	}
	isFile(t, text, want...)
}

func TestGreatTexts(t *testing.T) {
	const size = 1 << 24
	for _, unit := range []string{"a", "!", "*", "*.", ".", "a.", "1.", "[", "\xff", "\r", "\n"} {
		s := strings.Repeat(unit, size/len(unit))
		for _, line := range []string{s, " " + s, "!" + s, "*." + s, "*." + s + "b"} {
			isNone(t, line)
		}
	}
	for _, blank := range []string{" ", "\t", " \t"} {
		s := strings.Repeat(blank, size/len(blank))
		isSilent(t, s)
		isSilent(t, s+"//"+s)
		is(t, s+"!a.b"+s+"c", api.Rule{Kind: exceptKind, Name: "a.b"})
		isNone(t, s+"!a"+s)
	}
	for _, unit := range []string{"\n", "a\n", "*\n", "a", " ", "//"} {
		s := strings.Repeat(unit, size/len(unit))
		isFaulty(t, s, api.ErrLong, 1, 1)
		if got := rule.Text(api.Rule{Kind: exceptKind, Name: s}); got != "!"+s {
			t.Errorf("Text of %d bytes has %d", len(s), len(got))
		}
	}
}
