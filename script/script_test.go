package script_test

import (
	"encoding/hex"
	"fmt"
	"math"
	"math/rand/v2"
	"regexp"
	"slices"
	"strconv"
	"strings"
	"testing"

	"cracknel/api"
	"cracknel/host"
	"cracknel/jar"
	"cracknel/octet"
	"cracknel/rule"
	"cracknel/sample"
	"cracknel/script"
	"cracknel/suffix"
	"cracknel/url"
)

// clearing is the one step of its Kind that is RIGHT.
var clearing = api.Op{Kind: api.OpClear}

// set: a header that comes from a URL.
func set(from, text string) api.Op {
	u, e := url.Parse(from)
	if e != api.OK {
		panic(from + " is no URL")
	}
	return api.Op{Kind: api.OpSet, URL: u, Text: text}
}

// get: a request to a URL.
func get(to string, cross int) api.Op {
	u := set(to, "").URL
	return api.Op{Kind: api.OpGet, Request: api.Request{Secure: u.Secure, Host: u.Host, Path: u.Path, Cross: cross}}
}

// tick: so much time.
func tick(n int64) api.Op { return api.Op{Kind: api.OpTick, N: n} }

// times: so many of one step.
func times(n int, o api.Op) []api.Op { return slices.Repeat([]api.Op{o}, n) }

// of: so many of these bytes.
func of(size int, s string) string { return strings.Repeat(s, size) }

// table has rules of all kinds.
func table() *suffix.Table {
	all, _ := rule.File("com\nco.uk\n*.ck\n!www.ck\n")
	return suffix.New(all...)
}

// shown: the beginning of what a value says.
func shown(x any) string { return fmt.Sprintf("%.500q", fmt.Sprintf("%+v", x)) }

// isWrong: is a step not RIGHT, and has none a text that it is one of?
func isWrong(t *testing.T, o api.Op) {
	t.Helper()
	if script.Right(o) {
		t.Errorf("Right(%s)", shown(o))
	}
	isRefused(t, api.ErrWords, o)
	isRefused(t, api.ErrWords, clearing, o)
	isRefused(t, api.ErrWords, o, clearing)
}

func isText(t *testing.T, want string, l ...api.Op) {
	t.Helper()
	if s, e := script.Text(l...); s != want || e != api.OK {
		t.Errorf("Text(%s) = %.300q, %d, not %.300q", shown(l), s, e, want)
	}
}

func isRefused(t *testing.T, want api.Errno, l ...api.Op) {
	t.Helper()
	if s, e := script.Text(l...); s != "" || e != want {
		t.Errorf("Text(%s) = %.300q, %d, not %d", shown(l), s, e, want)
	}
}

func isParsed(t *testing.T, s string, want ...api.Op) {
	t.Helper()
	if l, f := script.Parse(s); !slices.Equal(l, want) || f != (api.Fault{}) {
		t.Errorf("Parse(%.300q) = %s, %v, not %s", s, shown(l), f, shown(want))
	}
}

func isFaulty(t *testing.T, s string, code api.Errno, line int) {
	t.Helper()
	want := api.Fault{Code: code, Line: line, Col: 1}
	if l, f := script.Parse(s); len(l) != 0 || f != want {
		t.Errorf("Parse(%.300q) = %s, %v, not %v", s, shown(l), f, want)
	}
}

func isRun(t *testing.T, x *suffix.Table, l []api.Op, want ...string) {
	t.Helper()
	if got := script.Run(x, l...); !slices.Equal(got, want) {
		t.Errorf("Run(%s) = %.600q, not %.600q", shown(l), got, want)
	}
}

// lined is a step that is RIGHT, and its line.
type lined struct {
	op   api.Op
	line string
}

func ordinary() []lined {
	longPath := "/" + of(2047, "p")
	longHost := of(126, "a.") + "b"
	all := []lined{
		{set("http://h/", "a=1"), "set http://h/ a=1"},
		{set("https://h/", "a=1"), "set https://h/ a=1"},
		{set("http://h:80/", "a=1"), "set http://h/ a=1"},
		{set("https://h:80/", "a=1"), "set https://h:80/ a=1"},
		{set("http://h:443/", "a=1"), "set http://h:443/ a=1"},
		{set("http://h:1/", "a"), "set http://h:1/ a"},
		{set("http://h:65535/", "a"), "set http://h:65535/ a"},
		{set("https://a.x.com:8443/p/q", "n=v; Domain=x.com; Max-Age=7"), "set https://a.x.com:8443/p/q n=v;%20Domain=x.com;%20Max-Age=7"},
		{set("http://1.2.3.4/", ""), "set http://1.2.3.4/ %"},
		{set("http://[::1]:81/a//b/", "%"), "set http://[::1]:81/a//b/ %25"},
		{set("http://[2001:db8::1:0:0:1]/", " "), "set http://[2001:db8::1:0:0:1]/ %20"},
		{set("http://h/%20%", "%20"), "set http://h/%20% %2520"},
		{set("http://h/set", "set http://h/ a"), "set http://h/set set%20http://h/%20a"},
		{set("http://h/", "\x00\t\n\r\x1f\x7f\x80\xff"), "set http://h/ %00%09%0A%0D%1F%7F%80%FF"},
		{set("http://h/", "!~?#;=\"\\"), "set http://h/ !~?#;=\"\\"},
		{set("http://h/", "\u00e4"), "set http://h/ %C3%A4"},
		{set("https://"+longHost+longPath, of(5000, "b")), "set https://" + longHost + longPath + " " + of(5000, "b")},
		{get("https://"+longHost+longPath, 1), "get https " + longHost + " " + longPath + " top"},
		{get("http://1.2.3.4/a/", 0), "get http 1.2.3.4 /a/ same"},
		{get("https://[::1]/~!", 2), "get https [::1] /~! sub"},
		{get("http://[2001:db8::1:0:0:1]//", 1), "get http [2001:db8::1:0:0:1] // top"},
		{get("http://get/same", 0), "get http get /same same"},
		{get("http://h/%20%41%", 0), "get http h /%20%41% same"},
		{clearing, "clear"},
	}
	for cross, word := range []string{"same", "top", "sub"} {
		all = append(all, lined{get("http://h/", cross), "get http h / " + word})
		all = append(all, lined{get("https://a.x-y.com/p/q", cross), "get https a.x-y.com /p/q " + word})
	}
	for _, n := range []int64{0, 1, 2, 9, 10, 99, 100, 86400, api.MaxAge, 1 << 31, 1<<32 + 1, api.MaxClock - 1, api.MaxClock} {
		all = append(all, lined{tick(n), fmt.Sprintf("tick %d", n)})
	}
	return all
}

// P13.1

func TestRight(t *testing.T) {
	for _, one := range ordinary() {
		if !script.Right(one.op) {
			t.Errorf("Right(%s) is false", shown(one.op))
		}
	}
}

// What a step may have, each of it changed into something that isn't zero.
var (
	urlChanges = []func(o *api.Op){
		func(o *api.Op) { o.URL.Secure = true },
		func(o *api.Op) { o.URL.Host.Kind = api.HostName },
		func(o *api.Op) { o.URL.Host.Kind = -1 },
		func(o *api.Op) { o.URL.Host.Name = "h" },
		func(o *api.Op) { o.URL.Host.Addr[0] = 1 },
		func(o *api.Op) { o.URL.Host.Addr[15] = 1 },
		func(o *api.Op) { o.URL.Port = 80 },
		func(o *api.Op) { o.URL.Port = -1 },
		func(o *api.Op) { o.URL.Path = "/" },
		func(o *api.Op) { o.URL.Path = "p" },
		func(o *api.Op) { o.URL = set("http://h/", "").URL },
	}
	textChanges = []func(o *api.Op){
		func(o *api.Op) { o.Text = "a=1" },
		func(o *api.Op) { o.Text = " " },
		func(o *api.Op) { o.Text = "\x00" },
	}
	requestChanges = []func(o *api.Op){
		func(o *api.Op) { o.Request.Secure = true },
		func(o *api.Op) { o.Request.Host.Kind = api.HostName },
		func(o *api.Op) { o.Request.Host.Kind = -1 },
		func(o *api.Op) { o.Request.Host.Name = "h" },
		func(o *api.Op) { o.Request.Host.Addr[0] = 1 },
		func(o *api.Op) { o.Request.Host.Addr[15] = 1 },
		func(o *api.Op) { o.Request.Path = "/" },
		func(o *api.Op) { o.Request.Path = "p" },
		func(o *api.Op) { o.Request.Cross = api.CrossTop },
		func(o *api.Op) { o.Request.Cross = -1 },
		func(o *api.Op) { o.Request = get("http://h/", api.CrossSame).Request },
	}
	numberChanges = []func(o *api.Op){
		func(o *api.Op) { o.N = 1 },
		func(o *api.Op) { o.N = -1 },
		func(o *api.Op) { o.N = api.MaxClock },
		func(o *api.Op) { o.N = 1 << 32 },
		func(o *api.Op) { o.N = math.MinInt64 },
	}
)

// besides answers, of each Kind, how fields change that it doesn't have.
func besides() map[int][]func(o *api.Op) {
	return map[int][]func(o *api.Op){
		api.OpSet:   slices.Concat(requestChanges, numberChanges),
		api.OpGet:   slices.Concat(urlChanges, textChanges, numberChanges),
		api.OpTick:  slices.Concat(urlChanges, textChanges, requestChanges),
		api.OpClear: slices.Concat(urlChanges, textChanges, requestChanges, numberChanges),
	}
}

func TestRightButForAFieldOfAnotherKind(t *testing.T) {
	tried := 0
	for _, one := range ordinary() {
		for _, change := range besides()[one.op.Kind] {
			o := one.op
			change(&o)
			isWrong(t, o)
			tried++
		}
	}
	if tried < 500 {
		t.Errorf("%d steps", tried)
	}
}

var otherKinds = []int{0, 5, 6, 9, -1, -2, -3, -4, -5, 257, 258, 259, 260, 1<<32 + 1, 1<<32 + 2, 1<<32 + 3, 1<<32 + 4, math.MaxInt, math.MinInt, math.MinInt + 1}

func TestRightOfOtherKinds(t *testing.T) {
	for _, kind := range otherKinds {
		isWrong(t, api.Op{Kind: kind})
		for _, one := range ordinary() {
			o := one.op
			o.Kind = kind
			isWrong(t, o)
		}
	}
}

// What one Kind has is nothing of another one's.
func TestRightOfAnotherKind(t *testing.T) {
	for _, one := range ordinary() {
		for kind := api.OpSet; kind <= api.OpClear; kind++ {
			o := one.op
			o.Kind = kind
			zero := o == api.Op{Kind: kind}
			right := kind == one.op.Kind || zero && (kind == api.OpTick || kind == api.OpClear)
			if script.Right(o) != right {
				t.Errorf("Right(%s) isn't %v", shown(o), right)
			}
		}
	}
	isWrong(t, api.Op{Kind: api.OpSet})
	isWrong(t, api.Op{Kind: api.OpGet})
	isText(t, "tick 0\n", api.Op{Kind: api.OpTick})
	isText(t, "clear\n", api.Op{Kind: api.OpClear})
}

func TestRightOfWrongURLs(t *testing.T) {
	for _, u := range sample.WrongURLs() {
		for _, text := range []string{"", "a=1"} {
			isWrong(t, api.Op{Kind: api.OpSet, URL: u, Text: text})
		}
	}
}

func TestRightOfWrongRequests(t *testing.T) {
	for _, secure := range []bool{false, true} {
		for cross := range 3 {
			good := get("http://a.x.com/p", cross)
			good.Request.Secure = secure
			isText(t, map[bool]string{true: "get https", false: "get http"}[secure]+" a.x.com /p "+[]string{"same", "top", "sub"}[cross]+"\n", good)
			for _, h := range sample.WrongHosts() {
				o := good
				o.Request.Host = h
				isWrong(t, o)
			}
			for _, path := range sample.WrongPaths() {
				o := good
				o.Request.Path = path
				isWrong(t, o)
			}
		}
		for _, cross := range []int{-1, -2, 3, 4, 255, 256, 257, 1 << 32, 1<<32 + 1, 1<<32 + 2, math.MaxInt, math.MinInt} {
			o := get("http://a.x.com/p", cross)
			o.Request.Secure = secure
			isWrong(t, o)
		}
	}
}

func TestRightOfWrongTimes(t *testing.T) {
	for _, n := range []int64{-1, -2, -10, -1 << 31, -1 << 32, -api.MaxClock, -api.MaxClock - 1, api.MaxClock + 1, api.MaxClock + 2, 2 * api.MaxClock, 1 << 62, math.MaxInt64, math.MinInt64, math.MinInt64 + 1} {
		isWrong(t, tick(n))
	}
}

// word is the Word of a text once more.
func word(s string) string {
	if s == "" {
		return "%"
	}
	var all strings.Builder
	for _, c := range []byte(s) {
		if c > 32 && c < 127 && c != '%' {
			all.WriteByte(c)
		} else {
			fmt.Fprintf(&all, "%%%02X", c)
		}
	}
	return all.String()
}

func TestText(t *testing.T) {
	isText(t, "")
	before, text := []api.Op(nil), ""
	for _, one := range ordinary() {
		isText(t, one.line+"\n", one.op)
		isText(t, one.line+"\n"+one.line+"\n", one.op, one.op)
		isText(t, "tick 7\n"+one.line+"\nclear\n", tick(7), one.op, clearing)
		if len(text)+len(one.line) < 20000 {
			before, text = append(before, one.op), text+one.line+"\n"
			isText(t, text, before...)
		}
	}
	if len(before) < 40 {
		t.Errorf("%d steps", len(before))
	}
}

func TestTextOfEachByte(t *testing.T) {
	for c := range 256 {
		s := string([]byte{byte(c)})
		for _, text := range []string{s, s + s, "a" + s, s + "a", "a" + s + "b", " " + s + "%"} {
			line := "set http://h/ " + word(text) + "\n"
			isText(t, line, set("http://h/", text))
			isParsed(t, line, set("http://h/", text))
		}
		o := get("http://h/", 0)
		o.Request.Path = "/" + s
		if c > 32 && c < 127 && s != "?" && s != "#" {
			isText(t, "get http h /"+s+" same\n", o)
			isParsed(t, "get http h /"+s+" same\n", o)
		} else {
			isWrong(t, o)
		}
	}
}

func TestTextOfManySteps(t *testing.T) {
	for n := range 201 {
		isText(t, of(n, "clear\n"), times(n, clearing)...)
		isText(t, of(n, "set http://h/ a%20b\n"), times(n, set("http://h/", "a b"))...)
	}
	for _, n := range []int{201, 202, 203, 255, 256, 257, 400, 456, 1 << 10, 1 << 16, 1<<16 + 1, 1 << 17} {
		isRefused(t, api.ErrMany, times(n, clearing)...)
		isRefused(t, api.ErrMany, times(n, get("http://h/", 0))...)
	}
}

func TestTextOfManyBytes(t *testing.T) {
	// What stands in a line beside the Word has 15 bytes.
	const room = 20000 - 15
	for _, clears := range []int{0, 1, 2, 100, 198, 199} {
		for _, ahead := range []int{0, clears / 2, clears} {
			l := func(text string) []api.Op {
				return slices.Concat(times(ahead, clearing), []api.Op{set("http://h/", text)}, times(clears-ahead, clearing))
			}
			left := room - 6*clears
			for short := range 4 {
				text := of(left-short, "x")
				isText(t, of(ahead, "clear\n")+"set http://h/ "+text+"\n"+of(clears-ahead, "clear\n"), l(text)...)
				// Three bytes of the Word are one of the Text.
				text = of(left/3-short, " ") + of(left%3, "x")
				isText(t, of(ahead, "clear\n")+"set http://h/ "+word(text)+"\n"+of(clears-ahead, "clear\n"), l(text)...)
			}
			for _, more := range []int{1, 2, 3, 14, 15, 16, 6*clears + 1, 6*clears + 15, 6*clears + 16, 20000, 1 << 16, 1 << 20} {
				isRefused(t, api.ErrLong, l(of(left+more, "x"))...)
			}
			for _, more := range []int{1, 2, 3, 5000, 10000, 14000, 1 << 20} {
				isRefused(t, api.ErrLong, l(of(left/3+more, " "))...)
				isRefused(t, api.ErrLong, l(of(left/3, "\xff")+of(left%3+more, "x"))...)
			}
		}
	}
}

// Lines that are short each are too long together.
func TestTextOfManyBytesInAll(t *testing.T) {
	o := get("http://h/"+of(82, "p"), 0)
	line := "get http h " + o.Request.Path + " same\n"
	isText(t, of(200, line), times(200, o)...)
	if len(line) != 100 {
		t.Errorf("%d bytes", len(line))
	}
	o.Request.Path += "p"
	isText(t, of(198, line)+"get http h "+o.Request.Path+" same\n", append(times(198, get("http://h/"+of(82, "p"), 0)), o)...)
	for _, at := range []int{0, 1, 100, 198, 199} {
		l := times(200, get("http://h/"+of(82, "p"), 0))
		l[at] = o
		isRefused(t, api.ErrLong, l...)
		l[at] = get("http://h/"+of(82, "p"), 1)
		isText(t, of(at, line)+strings.Replace(line, "same", "top", 1)+of(199-at, line), l...)
	}
	isRefused(t, api.ErrLong, times(200, o)...)
	long := get("http://h/"+of(2047, "p"), 2)
	isText(t, of(9, "get http h /"+of(2047, "p")+" sub\n"), times(9, long)...)
	isRefused(t, api.ErrLong, times(10, long)...)
	isRefused(t, api.ErrLong, times(200, long)...)
}

// A step that isn't RIGHT is told ahead of too many, and that ahead of too
// long, wherever each stands.
func TestTextTellsTheFirstError(t *testing.T) {
	wrong, long := tick(-1), set("http://h/", of(20000, "x"))
	for _, n := range []int{0, 1, 199, 200, 201, 300} {
		for _, o := range []api.Op{clearing, long} {
			isRefused(t, api.ErrWords, append(times(n, o), wrong)...)
			isRefused(t, api.ErrWords, append([]api.Op{wrong}, times(n, o)...)...)
			isRefused(t, api.ErrWords, slices.Concat(times(n, o), []api.Op{wrong}, times(n, o))...)
		}
	}
	for _, n := range []int{200, 201, 300} {
		isRefused(t, api.ErrMany, append(times(n, clearing), long)...)
		isRefused(t, api.ErrMany, append([]api.Op{long}, times(n, clearing)...)...)
		isRefused(t, api.ErrMany, times(n+1, long)...)
	}
	for _, n := range []int{0, 1, 198, 199} {
		isRefused(t, api.ErrLong, append(times(n, clearing), long)...)
		isRefused(t, api.ErrLong, append([]api.Op{long}, times(n, clearing)...)...)
		isRefused(t, api.ErrLong, times(n+1, long)...)
	}
	isRefused(t, api.ErrWords, times(201, wrong)...)
	isRefused(t, api.ErrWords, times(201, api.Op{})...)
	isRefused(t, api.ErrWords, set("http://h/", of(20001, "x")), api.Op{Kind: api.OpSet, Text: of(20001, "x")})
}

// P13.2

func TestParse(t *testing.T) {
	isParsed(t, "")
	before, text := []api.Op(nil), ""
	for _, one := range ordinary() {
		for _, end := range []string{"", "\n", "\r\n", "\r"} {
			isParsed(t, one.line+end, one.op)
			isParsed(t, "tick 7\n"+one.line+"\r\nclear\n"+one.line+end, tick(7), one.op, clearing, one.op)
		}
		isFaulty(t, one.line+"\n\n", api.ErrWords, 2)
		isFaulty(t, "\n"+one.line, api.ErrWords, 1)
		isFaulty(t, one.line+"\r\r\n", api.ErrWords, 1)
		isFaulty(t, one.line+"\n\r", api.ErrWords, 2)
		if len(text)+len(one.line) < 20000 {
			before, text = append(before, one.op), text+one.line+"\n"
			isParsed(t, text, before...)
		}
	}
}

// A URL and a host may be written as they are read.
func TestParseOfWhatIsReadSo(t *testing.T) {
	for s, want := range map[string]api.Op{
		"set HTTP://H/ a":                        set("http://h/", "a"),
		"set hTTps://A.Com/P a":                  set("https://a.com/P", "a"),
		"set http://h a":                         set("http://h/", "a"),
		"set http://h:80 a":                      set("http://h/", "a"),
		"set http://h:80/ a":                     set("http://h/", "a"),
		"set https://h:443/p a":                  set("https://h/p", "a"),
		"set https://H:8443 a":                   set("https://h:8443/", "a"),
		"set http://h?x=1 a":                     set("http://h/", "a"),
		"set http://h# a":                        set("http://h/", "a"),
		"set http://h/p?q/r#s a":                 set("http://h/p", "a"),
		"set http://h/p#q?\xff\x00\t\r%a a":      set("http://h/p", "a"),
		"set http://[0:0:0:0:0:0:0:1]/ a":        set("http://[::1]/", "a"),
		"set http://[2001:DB8::0:1]:8080#x a":    set("http://[2001:db8::1]:8080/", "a"),
		"set http://[::FFFF]:80?[ %":             set("http://[::ffff]/", ""),
		"get http H / same":                      get("http://h/", 0),
		"get https A.x-Y.COM /P top":             get("https://a.x-y.com/P", 1),
		"get http [0:0:0:0:0:0:0:1] / sub":       get("http://[::1]/", 2),
		"get https [2001:DB8::0:1] /p same":      get("https://[2001:db8::1]/p", 0),
		"get http [1:02:003:0004:5:6:7:8] / top": get("http://[1:2:3:4:5:6:7:8]/", 1),
	} {
		for _, end := range []string{"", "\n", "\r\n"} {
			isParsed(t, s+end, want)
			isParsed(t, "clear\n"+s+end, clearing, want)
		}
		// Written again, they are as layers 4 and 3 write them.
		l, _ := script.Parse(s)
		again, e := script.Text(l...)
		if again == s+"\n" || e != api.OK {
			t.Errorf("%q is written %q, %d", s, again, e)
		}
		isParsed(t, again, want)
	}
}

// noSteps: lines of which none is that of a step.
func noSteps() []string {
	all := []string{
		"", " ", "  ", "\t", "\r", "%", "0", "1", "#", "# clear", "//", "http://h/", "http", "same", "ok",
		"Clear", "CLEAR", "cleaR", "clears", "clea", "\ufeffclear", "clear\x00", "\x00clear", "clear\xff", "clear.", "%63lear", "\"clear\"",
		"clear x", "clear 1", "clear clear", "clear %", "clear\tx", "clear\t", "\tclear", "clear\r\r", "\rclear", "cle ar",
		"tick", "tick x", "tick -1", "tick -0", "tick +1", "tick 01", "tick 00", "tick 1.0", "tick 1.", "tick 1e3", "tick 0x1", "tick 1_000", "tick 1,000", "tick %31", "tick %", "tick 1%", "tick 1\x00", "tick \u0661", "tick 1 2", "tick 1 x", "Tick 1", "TICK 1", "tick1", "tick\t1", "tick 1\t", "tock 1", "ticks 1",
		"tick 1099511627777", "tick 1099511627778", "tick 2199023255552", "tick 01099511627776", "tick 9999999999999", "tick 999999999999999999", "tick 1000000000000000000", "tick 9223372036854775807", "tick 9223372036854775808", "tick 18446744073709551616", "tick 18446744073709551617", "tick " + of(100, "9"), "tick " + of(18, "0"), "tick " + of(30, "0") + "1",
		"set", "set http://h/", "set a", "set a=1", "set a=1 http://h/", "set http://h/ a b", "set http://h/ a=1; Secure", "set http://h/ a % ", "set http://h/?a b c", "set http://h/?a b%20c d", "Set http://h/ a", "SET http://h/ a", "sets http://h/ a", "set\thttp://h/ a", "set http://h/\ta", "put http://h/ a", "set http://h/ set http://h/ a",
		"get", "get http", "get http h", "get http h /", "get http h same", "get http h / same same", "get http h / same /", "get http://h/ same", "get http://h / same", "get http h/ same", "get h / same", "get http / h same", "Get http h / same", "GET http h / same", "get\thttp h / same", "gets http h / same", "set http h / same", "get http://h/ a",
	}
	for _, u := range []string{"h", "/", "//h/", "ftp://h/", "ws://h/", "http:h", "http:/h", "http//h", "http:", "http://", "http:///", "https://", "https:///p", "xhttp://h/", "http://h..x/", "http://.h/", "http://h./", "http://h:/", "http://h:0/", "http://h:080/", "http://h:65536/", "http://h:x/", "http://h:80:80/", "http://u@h/", "http://u:p@h/", "http://1.2.3/", "http://1.2.3.256/", "http://h.1/", "http://[::1/", "http://[::1]x/", "http://::1/", "http://[1.2.3.4]/", "http://%68/", "http://\u00e4/", "http://h/\x7f", "http://h/\xff", "http://h/\t", "http://h/\u00e4", "http://h/" + of(2048, "p"), "http://" + of(127, "a.") + "/", "%", "http://h\\"} {
		all = append(all, "set "+u+" a", "set "+u+" %")
	}
	for _, w := range []string{"%%", "a%", "%2", "%2g", "%g0", "%a0", "%2f", "%41", "%7E", "%7e", "%21", "%7f", "%ff", "%0a", "%0", "a%20b%", "%20%", "%25%", "%%20", "\t", "a\t", "\x00", "\x1f", "\x7f", "\x80", "\xff", "\u00e4", "\u00a0", "a\rb", "\ra"} {
		all = append(all, "set http://h/ "+w)
	}
	for _, s := range []string{"HTTP", "Http", "HTTPS", "httpS", "htt", "httpss", "ftp", "both", "plain", "secure", "http:", "https:", "http://", "%", "http%", "0", "1", "true"} {
		all = append(all, "get "+s+" h / same")
	}
	for _, h := range []string{"%", "h.", ".h", "h..x", "h/", "h:80", "http://h", "*.h", "1", "1.2.3", "1.2.3.4.5", "1.2.3.256", "01.2.3.4", "h.1", "::1", "[::1", "::1]", "[]", "[::1]:80", "[1.2.3.4]", "[::g]", "\u00e4", "h\t", "\xff", "%68", of(64, "a"), of(127, "a.")} {
		all = append(all, "get http "+h+" / same", "get https "+h+" /p sub")
	}
	for _, p := range []string{"p", "p/", "h/", "%", "%2F", "?", "#", "/?", "/#", "/p?q", "/p#q", "/\t", "/\x00", "/\x7f", "/\x80", "/\xff", "/\u00e4", "//h/?", "http://h/", "/" + of(2048, "p")} {
		all = append(all, "get http h "+p+" same", "get https h "+p+" top")
	}
	for _, c := range []string{"Same", "SAME", "Top", "TOP", "Sub", "SUB", "sam", "samee", "to", "tops", "su", "subs", "cross", "cross-site", "none", "lax", "strict", "0", "1", "2", "3", "-1", "%", "same\t", "/", "same,top"} {
		all = append(all, "get http h / "+c, "get https a.x.com /p "+c)
	}
	return all
}

func TestParseOfNoSteps(t *testing.T) {
	for _, x := range noSteps() {
		isFaulty(t, x+"\n", api.ErrWords, 1)
		isFaulty(t, x+"\nclear\n", api.ErrWords, 1)
		isFaulty(t, x+"\r\nx", api.ErrWords, 1)
		isFaulty(t, "clear\n"+x+"\nclear", api.ErrWords, 2)
		isFaulty(t, "clear\r\ntick 1\n"+x+"\n"+x+"\n", api.ErrWords, 3)
		isFaulty(t, of(199, "clear\n")+x+"\n", api.ErrWords, 200)
		isFaulty(t, of(200, "clear\n")+x+"\n", api.ErrMany, 201)
		if x != "" {
			isFaulty(t, x, api.ErrWords, 1)
			isFaulty(t, "clear\n"+x, api.ErrWords, 2)
		}
	}
}

// One blank stands between two words, none ahead of them and none behind.
func TestParseOfBlanks(t *testing.T) {
	for _, one := range ordinary() {
		isFaulty(t, " "+one.line, api.ErrWords, 1)
		isFaulty(t, one.line+" ", api.ErrWords, 1)
		isFaulty(t, one.line+" \r\n", api.ErrWords, 1)
		isFaulty(t, "clear\n"+one.line+" \nclear", api.ErrWords, 2)
		isFaulty(t, one.line+"\t", api.ErrWords, 1)
		for i, c := range one.line {
			if c == ' ' {
				for _, other := range []string{"", "  ", "\t", " \t", "\t ", "\n", "   ", "\u00a0", "%20"} {
					isFaulty(t, one.line[:i]+other+one.line[i+1:], api.ErrWords, 1)
				}
			}
		}
	}
}

func TestParseOfManyLines(t *testing.T) {
	for n := range 201 {
		isParsed(t, of(n, "clear\n"), times(n, clearing)...)
		isParsed(t, of(n, "tick 5\r\n"), times(n, tick(5))...)
		if n > 0 {
			isParsed(t, strings.TrimSuffix(of(n, "clear\n"), "\n"), times(n, clearing)...)
		}
	}
	for _, n := range []int{201, 202, 255, 256, 257, 400, 1000, 3333} {
		isFaulty(t, of(n, "clear\n"), api.ErrMany, 201)
		isFaulty(t, strings.TrimSuffix(of(n, "clear\n"), "\n"), api.ErrMany, 201)
	}
	// Of empty lines the first one is told, wherever it stands; the end of the
	// two-hundredth is no beginning of another one.
	isParsed(t, of(200, "clear\r\n"), times(200, clearing)...)
	isFaulty(t, of(200, "clear\n")+"\n", api.ErrMany, 201)
	isFaulty(t, of(200, "clear\n")+"\r", api.ErrMany, 201)
	isFaulty(t, of(200, "clear\n")+" ", api.ErrMany, 201)
	for _, n := range []int{0, 1, 100, 198, 199} {
		isFaulty(t, of(n, "clear\n")+"\n"+of(300, "clear\n"), api.ErrWords, n+1)
		isFaulty(t, of(n, "clear\n")+"tick\n"+of(200-n, "clear\n"), api.ErrWords, n+1)
	}
	isFaulty(t, of(200, "\n"), api.ErrWords, 1)
	isFaulty(t, of(20000, "\n"), api.ErrWords, 1)
	isFaulty(t, of(10000, "x\n"), api.ErrWords, 1)
}

func TestParseOfManyBytes(t *testing.T) {
	const ahead = "set http://h/ "
	for _, end := range []string{"", "\n", "\r\n", "\nclear", "\nclear\n", "\r\nclear\r\n"} {
		size := 20000 - len(ahead) - len(end)
		want := []api.Op{set("http://h/", of(size, "x"))}
		if strings.Contains(end, "clear") {
			want = append(want, clearing)
		}
		isParsed(t, ahead+of(size, "x")+end, want...)
		isFaulty(t, ahead+of(size+1, "x")+end, api.ErrLong, 1)
		isFaulty(t, ahead+of(size+2, "x")+end, api.ErrLong, 1)
	}
	isParsed(t, "set http://h/?"+of(20000-16, "\xff")+" a", set("http://h/", "a"))
	isFaulty(t, "set http://h/?"+of(20000-15, "\xff")+" a", api.ErrLong, 1)
	// Ahead of all other faults.
	for _, s := range []string{"x", "\n", " ", "\x00", "clear\n", "tick 1\n", "clear \n", "\r\n"} {
		isFaulty(t, of(20000/len(s)+1, s), api.ErrLong, 1)
		isFaulty(t, "x\n"+of(20000/len(s)+1, s), api.ErrLong, 1)
	}
	isFaulty(t, of(3334, "clear\n"), api.ErrLong, 1)
	isFaulty(t, of(3333, "clear\n")+"\n\n", api.ErrMany, 201)
	isFaulty(t, of(3333, "clear\n")+"\n\n\n", api.ErrLong, 1)
	isFaulty(t, of(20000, "x"), api.ErrWords, 1)
	isFaulty(t, of(20001, "x"), api.ErrLong, 1)
}

// lineForm says once more what lines steps have.
var lineForm = regexp.MustCompile(`(?s)^(?:set ([^ ]+) ([^ ]+)|get (https?) ([^ ]+) ([^ ]+) (same|top|sub)|tick (0|[1-9][0-9]*)|(clear))$`)

// lineRead says once more what the chapter says of a line, with the library's
// means.
func lineRead(line string) (api.Op, bool) {
	m := lineForm.FindStringSubmatch(line)
	switch {
	case m == nil:
		return api.Op{}, false
	case m[1] != "":
		u, e := url.Parse(m[1])
		text, ok := unworded(m[2])
		return api.Op{Kind: 1, URL: u, Text: text}, e == api.OK && ok
	case m[3] != "":
		h, e := host.Parse(m[4])
		cross := map[string]int{"same": 0, "top": 1, "sub": 2}[m[6]]
		return api.Op{Kind: 2, Request: api.Request{Secure: m[3] == "https", Host: h, Path: m[5], Cross: cross}}, e == api.OK && url.Path(m[5])
	case m[7] != "":
		n, err := strconv.ParseInt(m[7], 10, 64)
		return api.Op{Kind: 3, N: n}, err == nil && n <= 1<<40
	}
	return api.Op{Kind: 4}, true
}

var escape = regexp.MustCompile(`%..`)

// unworded: the text of which this is the word.
func unworded(w string) (string, bool) {
	text := escape.ReplaceAllStringFunc(w, func(s string) string {
		c, err := hex.DecodeString(s[1:])
		if err != nil {
			return ""
		}
		return string(c)
	})
	if w == "%" {
		text = ""
	}
	return text, word(text) == w
}

// read says once more what the chapter says of a text.
func read(s string) ([]api.Op, api.Fault) {
	if len(s) > 20000 {
		return nil, api.Fault{Code: 54, Line: 1, Col: 1}
	}
	var l []api.Op
	for i, line := range strings.SplitAfter(s, "\n") {
		if line == "" {
			break
		}
		o, ok := lineRead(strings.TrimSuffix(strings.TrimSuffix(line, "\n"), "\r"))
		switch {
		case i == 200:
			return nil, api.Fault{Code: 53, Line: 201, Col: 1}
		case !ok:
			return nil, api.Fault{Code: 131, Line: i + 1, Col: 1}
		}
		l = append(l, o)
	}
	return l, api.Fault{}
}

// isRead: is a text parsed as the second reading has it, and what comes of it
// written and parsed again?
func isRead(t *testing.T, s string) bool {
	t.Helper()
	want, wantFault := read(s)
	l, f := script.Parse(s)
	if !slices.Equal(l, want) || f != wantFault {
		t.Fatalf("Parse(%q) = %v, %v, not %v, %v", s, l, f, want, wantFault)
	}
	if f != (api.Fault{}) {
		return false
	}
	for _, o := range l {
		if !script.Right(o) {
			t.Fatalf("Parse(%q): %v isn't right", s, o)
		}
	}
	again, e := script.Text(l...)
	if e != api.OK {
		t.Fatalf("Parse(%q), Text: %d", s, e)
	}
	isParsed(t, again, l...)
	return true
}

// Lines with one byte more, one less, or another one.
func TestParseOfEachByte(t *testing.T) {
	right := 0
	for _, line := range []string{"set http://a.b:80/p%20 k=1;%20x", "set https://[::1] %", "get http a.b /p%20 same", "get https [::1] / top", "get http 1.2.3.4 /p sub", "tick 1099511627776", "tick 0", "clear"} {
		for i := range len(line) + 1 {
			texts := []string{line[:i]}
			if i < len(line) {
				texts = append(texts, line[:i]+line[i+1:], line[i:])
			}
			for c := range 256 {
				s := string([]byte{byte(c)})
				texts = append(texts, line[:i]+s+line[i:], line[:i]+s+line[min(i+1, len(line)):])
			}
			for _, s := range texts {
				if isRead(t, s) {
					right++
				}
			}
		}
	}
	if right < 1000 {
		t.Errorf("%d are right", right)
	}
}

func TestParseOfManyTexts(t *testing.T) {
	right := 0
	for _, list := range [][]string{
		sample.Texts(6, "clear", "tick", "\n", "\r", " ", "1", "0"),
		sample.Texts(5, "set http://a b", "set ", "HTTPS://", "a", "%", "20", "/", " ", "\n"),
		sample.Texts(6, "get http a ", "get ", "https ", "A", " ", "/", "same", "\n"),
	} {
		for _, s := range list {
			if isRead(t, s) {
				right++
			}
		}
	}
	if right < 500 {
		t.Errorf("%d are right", right)
	}
}

// Texts of pieces of lines, put together any way.
func TestParseOfAnyTexts(t *testing.T) {
	r := rand.New(rand.NewPCG(13, 2))
	var lines []string
	for _, one := range ordinary() {
		lines = append(lines, one.line)
	}
	wrong := noSteps()
	right := 0
	for range 20000 {
		s := ""
		for range r.IntN(5) {
			line := lines[r.IntN(len(lines))]
			if r.IntN(20) == 0 {
				line = wrong[r.IntN(len(wrong))]
			}
			s += line + []string{"\n", "\n", "\n", "\r\n", "\n\n", "", " "}[r.IntN(7)]
		}
		if isRead(t, s) {
			right++
		}
	}
	if right < 1000 {
		t.Errorf("%d are right", right)
	}
}

// P13.3

func TestExamples(t *testing.T) {
	l, f := script.Parse("set http://h/ a=1\ntick 1\nget http h / same\n")
	if f != (api.Fault{}) {
		t.Error(f)
	}
	isRun(t, suffix.New(), l, "ok", "ok", "a=1")
}

// The document's examples of the whole, as far as a jar plays them.
func TestExamplesOfTheWhole(t *testing.T) {
	isRun(t, table(), []api.Op{set("http://x.com/", "a=1; Domain=com")}, "error 102")
	isRun(t, table(), []api.Op{set("https://x.com/", "a=1; Secure"), set("http://x.com/", "a=2"), get("https://x.com/", 0)}, "ok", "error 121", "a=1")
	var l []api.Op
	for i := range 51 {
		l = append(l, set("http://x.com/", fmt.Sprintf("%d=v", i)), tick(1))
	}
	answers := script.Run(table(), append(l, get("http://x.com/", 0))...)
	if last := answers[len(answers)-1]; !strings.HasPrefix(last, "1=v;%202=v;%20") || !strings.HasSuffix(last, ";%2050=v") || strings.Contains(last, "%200=v") {
		t.Errorf("%.600q", answers)
	}
	isRun(t, table(), []api.Op{set("http://x.com/", "a=1"), get("http://x.com/", 0), get("http://b.x.com/", 0)}, "ok", "a=1", "%")
	isRun(t, table(), []api.Op{set("http://a.x.com/", "a=1; Domain=x.com"), tick(1), get("http://b.x.com/", 0)}, "ok", "ok", "a=1")
	isRun(t, table(), []api.Op{set("http://a.x.com/", "a=1; Domain=x.com"), set("http://x.com/", "a=2; Domain=x.com"), get("http://x.com/p", 0)}, "ok", "ok", "a=2")
	isRun(t, table(), []api.Op{set("http://a.x.com/", "a=1; Domain=x.com"), set("http://x.com/", "a=2; Domain=x.com; Path=/p"), get("http://x.com/p", 0)}, "ok", "ok", "a=2;%20a=1")
	isRun(t, table(), []api.Op{set("https://x.com/", "__Host-a=1; Secure; Path=/; Domain=x.com")}, "error 106")
}

func TestRunOfNothing(t *testing.T) {
	isRun(t, table(), nil)
	isRun(t, suffix.New(), []api.Op{})
}

// A get's answer is a Word, of nothing too.
func TestRunAnswersWords(t *testing.T) {
	for text, want := range map[string]string{
		"a=1": "a=1", "a=": "a=", "=v": "v", "v": "v", "a=b c": "a=b%20c", "a=%": "a=%25", "a=%20": "a=%2520", "%": "%25", "a=\xff": "a=%FF", "a=.\t.\x80": "a=.%09.%80", "a=\u00e4": "a=%C3%A4", "a=b=c": "a=b=c", "a=\"~!\"": "a=\"~!\"", "ok": "ok", "error 131": "error%20131",
	} {
		isRun(t, table(), []api.Op{set("http://x.com/", text), get("http://x.com/", 0)}, "ok", want)
		isRun(t, table(), []api.Op{set("http://x.com/", "z=9"), set("http://x.com/", text), get("http://x.com/", 0)}, "ok", "ok", "z=9;%20"+want)
	}
	isRun(t, table(), []api.Op{get("http://x.com/", 0), get("https://[::1]/p", 2)}, "%", "%")
	long := of(4095, " ") + "x"
	isRun(t, table(), []api.Op{set("http://x.com/", "x"+long), set("http://x.com/", "y"+long), get("http://x.com/", 0)}, "error 83", "error 83", "%")
	long = of(4094, "\xff")
	isRun(t, table(), []api.Op{set("http://x.com/", "x="+long), set("http://x.com/", "y="+long), get("http://x.com/", 0)}, "ok", "ok", "x="+of(4094, "%FF")+";%20y="+of(4094, "%FF"))
}

func TestRunOfRequests(t *testing.T) {
	l := []api.Op{set("https://x.com/", "l=1"), set("https://x.com/", "s=1; SameSite=Strict"), set("https://x.com/", "n=1; SameSite=None; Secure"), set("https://x.com/", "p=1; Path=/p")}
	for _, one := range []struct {
		to    string
		cross int
		want  string
	}{
		{"https://x.com/", 0, "l=1;%20s=1;%20n=1"}, {"https://x.com/", 1, "l=1;%20n=1"}, {"https://x.com/", 2, "n=1"},
		{"http://x.com/", 0, "l=1;%20s=1"}, {"http://x.com/", 1, "l=1"}, {"http://x.com/", 2, "%"},
		{"http://x.com/p/q", 0, "p=1;%20l=1;%20s=1"}, {"http://x.com/pq", 0, "l=1;%20s=1"}, {"http://a.x.com/", 0, "%"}, {"http://com/", 0, "%"},
	} {
		isRun(t, table(), append(slices.Clone(l), get(one.to, one.cross)), "ok", "ok", "ok", "ok", one.want)
	}
}

// What one step did the next one meets; what one Run did no other one does.
func TestRunGoesStepByStep(t *testing.T) {
	x := table()
	l := []api.Op{
		get("http://x.com/", 0), set("http://x.com/", "a=1; Max-Age=10"), get("http://x.com/", 0), tick(9), get("http://x.com/", 0), set("http://x.com/", "b=2"), get("http://x.com/", 0), tick(1), get("http://x.com/", 0), set("http://x.com/", "b=3"), get("http://x.com/", 0), set("http://x.com/", "b=; Max-Age=0"), get("http://x.com/", 0),
	}
	for range 3 {
		isRun(t, x, l, "%", "ok", "a=1", "ok", "a=1", "ok", "a=1;%20b=2", "ok", "b=2", "ok", "b=3", "ok", "%")
	}
	isRun(t, x, l[:3], "%", "ok", "a=1")
	isRun(t, x, l[:1], "%")
}

// fault is a step, and the error that it answers.
type fault struct {
	op   api.Op
	want string
}

// faults answer so whatever cookies there are.
var faults = []fault{
	{api.Op{Kind: api.OpSet}, "error 41"},
	{api.Op{Kind: api.OpSet, Text: "a=1"}, "error 41"},
	{api.Op{Kind: api.OpSet, URL: api.URL{Host: api.Host{Kind: 1, Name: "X.com"}, Port: 80, Path: "/"}, Text: "a=1"}, "error 41"},
	{set("http://x.com/", "a=1\n"), "error 81"},
	{set("http://x.com/", "\x00"), "error 81"},
	{set("http://x.com/", ""), "error 82"},
	{set("http://x.com/", "=; Path=/"), "error 82"},
	{set("http://x.com/", of(4097, "a")), "error 83"},
	{set("http://x.com/", "a=1; Domain=x..com"), "error 101"},
	{set("http://x.com/", "a=1; Domain=com"), "error 102"},
	{set("http://x.com/", "a=1; Domain=y.com"), "error 103"},
	{set("http://x.com/", "a=1; Secure"), "error 104"},
	{set("http://x.com/", "a=1; SameSite=None"), "error 105"},
	{set("http://x.com/", "__Secure-a=1"), "error 106"},
	{tick(-1), "error 122"},
	{tick(api.MaxClock + 1), "error 122"},
	{tick(math.MaxInt64), "error 122"},
	{tick(math.MinInt64), "error 122"},
	{api.Op{}, "error 131"},
	{api.Op{Kind: 5}, "error 131"},
	{api.Op{Kind: -1, N: 1}, "error 131"},
}

func TestRunAnswersErrors(t *testing.T) {
	full := []api.Op{tick(3), set("https://x.com/", "s=1; Secure"), set("http://x.com/", "a=2; Max-Age=1")}
	look, seen := []api.Op{get("https://x.com/", 0), tick(1), get("https://x.com/", 0)}, []string{"s=1;%20a=2", "ok", "s=1"}
	for _, one := range faults {
		isRun(t, table(), []api.Op{one.op}, one.want)
		isRun(t, table(), times(300, one.op), slices.Repeat([]string{one.want}, 300)...)
	}
	// Behind each all is as it was.
	for _, one := range append(slices.Clone(faults), fault{tick(api.MaxClock - 2), "error 122"}, fault{set("http://x.com/", "s=2"), "error 121"}) {
		l := slices.Concat(full, []api.Op{one.op}, look)
		isRun(t, table(), l, slices.Concat([]string{"ok", "ok", "ok", one.want}, seen)...)
	}
}

// All faults in a row, and steps between them.
func TestRunGoesOnBehindErrors(t *testing.T) {
	var l []api.Op
	var want []string
	for i, one := range faults {
		name := strconv.Itoa(i)
		l = append(l, one.op, set("http://y"+name+".com/", "a="+name), get("http://y"+name+".com/", 0))
		want = append(want, one.want, "ok", "a="+name)
	}
	isRun(t, table(), l, want...)
}

func TestRunClears(t *testing.T) {
	look := get("https://x.com/", 0)
	isRun(t, table(), []api.Op{clearing, clearing, look}, "ok", "ok", "%")
	isRun(t, table(), []api.Op{set("http://x.com/", "a=1"), look, clearing, look, clearing, set("http://x.com/", "b=1"), look}, "ok", "a=1", "ok", "%", "ok", "ok", "b=1")
	// Nothing is left that a cookie would stand beside.
	isRun(t, table(), []api.Op{set("https://x.com/", "s=1; Secure"), set("http://x.com/", "s=2"), clearing, set("http://x.com/", "s=2"), look}, "ok", "error 121", "ok", "ok", "s=2")
	// The time stays.
	isRun(t, table(), []api.Op{tick(api.MaxClock), clearing, tick(1), tick(0), set("http://x.com/", "a=1; Max-Age=1"), look, tick(1)}, "ok", "ok", "error 122", "ok", "ok", "a=1", "error 122")
	isRun(t, table(), []api.Op{tick(9), clearing, set("http://x.com/", "a=1; Expires=1 jan 1970 0:0:9"), look, set("http://x.com/", "a=1; Expires=1 jan 1970 0:0:10"), look}, "ok", "ok", "ok", "%", "ok", "a=1")
}

func TestRunTicks(t *testing.T) {
	isRun(t, table(), []api.Op{tick(0), tick(api.MaxClock - 1), tick(2), tick(1), tick(1), tick(0)}, "ok", "ok", "error 122", "ok", "error 122", "ok")
	isRun(t, table(), []api.Op{tick(api.MaxClock), tick(api.MaxClock), tick(0)}, "ok", "error 122", "ok")
	for _, n := range []int64{0, 1, 4, 5, 6, 100, api.MaxClock} {
		want := "a=1"
		if n >= 5 {
			want = "%"
		}
		isRun(t, table(), []api.Op{set("http://x.com/", "a=1; Max-Age=5"), tick(n), get("http://x.com/", 0)}, "ok", "ok", want)
	}
}

// The table tells what is public, in each Run its own.
func TestRunGoesByItsTable(t *testing.T) {
	l := []api.Op{set("http://a.co.uk/", "a=1; Domain=co.uk"), get("http://b.co.uk/", 0)}
	for range 2 {
		isRun(t, table(), l, "error 102", "%")
		isRun(t, suffix.New(), l, "ok", "a=1")
	}
}

// What a Kind doesn't have changes nothing of what it answers.
func TestRunOfStepsWithMore(t *testing.T) {
	for _, one := range []struct {
		op   api.Op
		want []string
	}{
		{set("http://x.com/", "a=2"), []string{"ok", "a=2;%20s=1"}},
		{set("http://x.com/", "a=2; Domain=com"), []string{"error 102", "a=1;%20s=1"}},
		{get("http://x.com/", 1), []string{"a=1", "a=1;%20s=1"}},
		{get("https://a.x.com/", 0), []string{"%", "a=1;%20s=1"}},
		{tick(6), []string{"ok", "s=1"}},
		{tick(-6), []string{"error 122", "a=1;%20s=1"}},
		{clearing, []string{"ok", "%"}},
	} {
		for _, change := range append(besides()[one.op.Kind], func(*api.Op) {}) {
			o := one.op
			change(&o)
			l := []api.Op{set("http://x.com/", "a=1; Max-Age=5"), set("https://x.com/", "s=1; Secure"), o, get("https://x.com/", 0)}
			isRun(t, table(), l, append([]string{"ok", "ok"}, one.want...)...)
		}
	}
}

// A request need be no more than one with which cookies go.
func TestRunOfWrongRequests(t *testing.T) {
	ahead := []api.Op{set("https://x.com/", "a=1; Secure; SameSite=None"), set("https://x.com/", "b=1; Path=/x y?"), get("https://x.com/", 0)}
	look := func(change func(r *api.Request), want string) {
		t.Helper()
		o := get("https://x.com/", 0)
		change(&o.Request)
		isRun(t, table(), append(slices.Clone(ahead), o), "ok", "ok", "a=1", want)
	}
	for _, h := range sample.WrongHosts() {
		look(func(r *api.Request) { r.Host = h }, "%")
	}
	for _, cross := range []int{-1, 3, 1 << 32, math.MaxInt, math.MinInt} {
		look(func(r *api.Request) { r.Cross = cross }, "%")
	}
	for path, want := range map[string]string{"": "%", "p": "%", " /": "%", "/p?q": "a=1", "/ ": "a=1", "/\xff": "a=1", "/x y?": "b=1;%20a=1", "/x y?/z": "b=1;%20a=1", "/" + of(3000, "p"): "a=1"} {
		look(func(r *api.Request) { r.Path = path }, want)
	}
}

// A step of no Kind does nothing, whatever else it has.
func TestRunOfOtherKinds(t *testing.T) {
	for _, kind := range otherKinds {
		for _, o := range []api.Op{{}, set("http://x.com/", "a=2"), set("http://x.com/", "b=2"), tick(5), tick(-5), get("http://x.com/", 0), {URL: set("http://x.com/", "").URL, Text: "b=2", Request: get("http://x.com/", 0).Request, N: 7}} {
			o.Kind = kind
			l := []api.Op{set("http://x.com/", "a=1; Max-Age=5"), o, get("http://x.com/", 0), o, o, tick(4), get("http://x.com/", 0), tick(api.MaxClock - 4)}
			isRun(t, table(), l, "ok", "error 131", "a=1", "error 131", "error 131", "ok", "a=1", "ok")
		}
	}
}

// Each step has its answer, of however many.
func TestRunOfManySteps(t *testing.T) {
	for _, n := range []int{1, 199, 200, 201, 202, 1000, 1 << 16} {
		isRun(t, table(), times(n, tick(1)), slices.Repeat([]string{"ok"}, n)...)
		isRun(t, table(), times(n, api.Op{}), slices.Repeat([]string{"error 131"}, n)...)
		isRun(t, table(), append(times(n, clearing), set("http://x.com/", "a=1"), get("http://x.com/", 0)), append(slices.Repeat([]string{"ok"}, n+1), "a=1")...)
	}
}

// played says once more what a jar answers, step by step.
func played(x *suffix.Table, l []api.Op) []string {
	j := jar.New(x)
	say := func(e api.Errno) string {
		if e == 0 {
			return "ok"
		}
		return fmt.Sprintf("error %d", e)
	}
	var answers []string
	for _, o := range l {
		answer := say(131)
		switch o.Kind {
		case 1:
			answer = say(j.Set(o.URL, o.Text))
		case 2:
			answer = word(j.Get(o.Request))
		case 3:
			answer = say(j.Tick(o.N))
		case 4:
			answer = say(0)
			j.Clear()
		}
		answers = append(answers, answer)
	}
	return answers
}

// anyStep: any step, some of them wrong.
func anyStep(r *rand.Rand) api.Op {
	pick := func(list ...string) string { return list[r.IntN(len(list))] }
	place := pick("http://", "https://") + pick("x.com", "a.x.com", "b.a.x.com", "com", "y.com", "1.2.3.4", "[::1]") + pick("/", "/p", "/p/q", "/pq")
	switch n := r.IntN(20); {
	case n < 10:
		text := pick("a", "b", "", "__Host-a") + "=" + strconv.Itoa(r.IntN(99)) + pick("", "; Secure", "; Secure; SameSite=None", "; SameSite=Strict") + pick("", "", "; Domain=x.com", "; Domain=com") + pick("", "; Path=/", "; Path=/p") + pick("", "", "; Max-Age=3", "; Max-Age=0", "\x00")
		return set(place, text)
	case n < 16:
		return get(place, r.IntN(4))
	case n < 18:
		return tick([]int64{0, 1, 1, 2, 2, 3, -1, 1 << 40}[r.IntN(8)])
	case n < 19:
		return api.Op{Kind: r.IntN(7)}
	}
	o := set(place, "a=1")
	o.URL.Port, o.N, o.Request = r.IntN(2), 5, get(place, 1).Request
	return o
}

func TestRunOfAnySteps(t *testing.T) {
	x, sent, failed := table(), 0, map[string]int{}
	for seed := range uint64(2000) {
		r := rand.New(rand.NewPCG(seed, 13))
		var l []api.Op
		for range r.IntN(60) {
			l = append(l, anyStep(r))
		}
		want := played(x, l)
		if got := script.Run(x, l...); !slices.Equal(got, want) {
			t.Fatalf("Run(%v) = %q, not %q", l, got, want)
		}
		for i, s := range want {
			if strings.HasPrefix(s, "error") {
				failed[s]++
			} else if l[i].Kind == api.OpGet && s != "%" {
				sent++
			}
		}
	}
	if sent < 1000 || len(failed) < 8 {
		t.Errorf("%d were sent, and %v failed", sent, failed)
	}
}

// What is written and parsed again has the answers that it had.
func TestRunOfWhatIsWritten(t *testing.T) {
	x, r := table(), rand.New(rand.NewPCG(1, 13))
	for range 300 {
		var l []api.Op
		for range r.IntN(200) {
			if o := anyStep(r); script.Right(o) {
				l = append(l, o)
			}
		}
		s, e := script.Text(l...)
		if e != api.OK {
			t.Fatalf("Text(%v): %d", l, e)
		}
		isParsed(t, s, l...)
		again, _ := script.Parse(s)
		isRun(t, x, again, script.Run(x, l...)...)
	}
}

// P1, P2

// answers writes down what all calls say of a text, and of the steps that it
// may be.
func answers(s string) string {
	l, f := script.Parse(s)
	o := set("http://h/", s)
	back, e := script.Text(append(l, o)...)
	return fmt.Sprintf("%v %v %q %d %v %q", l, f, back, e, script.Right(o), script.Run(suffix.New(), append(l, o, get("http://h/", 0))...))
}

func TestAnswersHangOnArgumentsAlone(t *testing.T) {
	all := sample.Texts(5, "set http://h/ a", "tick 1", "clear", " ", "=", "\n", "\xff")
	all = append(all, noSteps()...)
	for _, one := range ordinary() {
		all = append(all, one.line)
	}
	for _, s := range sample.Unsteady(all, answers) {
		t.Errorf("%.100q: two answers", s)
	}
}

// What is handed in stays, spare room included.
func TestArgumentsStay(t *testing.T) {
	r := rand.New(rand.NewPCG(5, 13))
	room := make([]api.Op, 120)
	for i := range room {
		room[i] = anyStep(r)
	}
	before := slices.Clone(room)
	x := table()
	for n := range room {
		script.Text(room[:n]...)
		script.Run(x, room[:n]...)
		if n > 0 {
			script.Right(room[n-1])
		}
	}
	right := slices.DeleteFunc(slices.Clone(room), func(o api.Op) bool { return !script.Right(o) })
	beside := slices.Clone(right)
	script.Text(right...)
	if !slices.Equal(room, before) || !slices.Equal(right, beside) {
		t.Error("steps are changed")
	}
}

// An answer is its own: what is written over it changes no other one.
func TestAnswersAreNewMemory(t *testing.T) {
	s := "set http://h/ a=1\nget http h / same\ntick 5\nclear\nget http h / sub\n"
	want := []api.Op{set("http://h/", "a=1"), get("http://h/", 0), tick(5), clearing, get("http://h/", 2)}
	said := []string{"ok", "a=1", "ok", "ok", "%"}
	x := table()
	one, _ := script.Parse(s)
	other, _ := script.Parse(s)
	first, second := script.Run(x, want...), script.Run(x, want...)
	for i := range one[:cap(one)] {
		one[:cap(one)][i] = api.Op{Kind: 9}
	}
	for i := range first[:cap(first)] {
		first[:cap(first)][i] = "written over"
	}
	if !slices.Equal(other, want) || slices.Contains(other[:cap(other)], api.Op{Kind: 9}) {
		t.Errorf("steps are shared: %v", other[:cap(other)])
	}
	if !slices.Equal(second, said) || slices.Contains(second[:cap(second)], "written over") {
		t.Errorf("answers are shared: %q", second[:cap(second)])
	}
	isParsed(t, s, want...)
	isRun(t, x, want, said...)
}

func TestGreatTexts(t *testing.T) {
	const size = 1 << 24
	for _, unit := range []string{"a", " ", "%", "\n", "\x00", "\xff", "clear\n", "set http://h/ a\n", ";", "="} {
		s := of(size/len(unit), unit)
		isFaulty(t, s, api.ErrLong, 1)
		o := set("http://h/", s)
		if !script.Right(o) {
			t.Errorf("Right of a Text of %d bytes is false", len(s))
		}
		isRefused(t, api.ErrLong, o)
		isRefused(t, api.ErrLong, o, clearing, o)
		if got := script.Run(table(), o); len(got) != 1 || !strings.HasPrefix(got[0], "error 8") {
			t.Errorf("Run of a Text of %d bytes: %.300q", len(s), got)
		}
		for _, field := range []*string{&o.URL.Path, &o.URL.Host.Name} {
			before := *field
			*field += s
			isWrong(t, o)
			isRun(t, table(), []api.Op{o}, "error 41")
			*field = before
		}
		q := get("http://h/", 0)
		q.Request.Host.Name += s
		isWrong(t, q)
		isRun(t, table(), []api.Op{q}, "%")
	}
}

func TestGreatLists(t *testing.T) {
	const size = 1 << 18
	isRefused(t, api.ErrMany, times(size, clearing)...)
	isRefused(t, api.ErrWords, append(times(size, clearing), api.Op{})...)
	if got := script.Run(table(), times(size, clearing)...); len(got) != size {
		t.Errorf("%d answers", len(got))
	}
}

// Of any numbers a call still answers.
func TestAnyNumbers(t *testing.T) {
	numbers := []int64{0, 1, -1, 2, 3, 4, 5, 80, 65535, 65536, api.MaxClock, api.MaxClock + 1, math.MaxInt64, math.MinInt64}
	x := table()
	for _, a := range numbers {
		for _, b := range numbers {
			for _, c := range numbers {
				o := set("http://h/p", "a=1")
				o.Kind, o.URL.Port, o.URL.Host.Kind, o.N = int(a), int(b), int(c), b
				o.Request = api.Request{Host: o.URL.Host, Path: "/p", Cross: int(b)}
				for _, one := range []api.Op{o, {Kind: int(a), URL: o.URL}, {Kind: int(a), Request: o.Request}, {Kind: int(a), N: b}} {
					l := []api.Op{one, one, tick(1), one}
					isRun(t, x, l, played(x, l)...)
					if s, e := script.Text(one); script.Right(one) != (e == api.OK) || (s == "") != (e != api.OK) {
						t.Errorf("Text(%s) = %q, %d", shown(one), s, e)
					} else if e == api.OK {
						isParsed(t, s, one)
					}
				}
			}
		}
	}
}

// Each line is made of words, as layer 1 has them.
func TestLinesAreWords(t *testing.T) {
	for _, one := range ordinary() {
		s, _ := script.Text(one.op)
		lines := octet.Lines(s)
		if len(lines) != 1 {
			t.Errorf("%q: %d lines", s, len(lines))
			continue
		}
		words, ok := octet.Words(lines[0])
		if want := []int{0, 3, 5, 2, 1}[one.op.Kind]; !ok || len(words) != want {
			t.Errorf("%q: %d words, not %d", s, len(words), want)
		}
	}
}
