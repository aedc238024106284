package suffix_test

import (
	"fmt"
	"slices"
	"strconv"
	"strings"
	"testing"

	"cracknel/api"
	"cracknel/host"
	"cracknel/rule"
	"cracknel/sample"
	"cracknel/suffix"
)

func named(name string) api.Host {
	return api.Host{Kind: api.HostName, Name: name}
}

func plain(name string) api.Rule  { return api.Rule{Kind: 1, Name: name} }
func wild(name string) api.Rule   { return api.Rule{Kind: 2, Name: name} }
func except(name string) api.Rule { return api.Rule{Kind: 3, Name: name} }

// rules reads those that stand between the blanks of a text.
func rules(t *testing.T, text string) []api.Rule {
	t.Helper()
	all, f := rule.File(strings.ReplaceAll(text, " ", "\n"))
	if f != (api.Fault{}) {
		t.Fatalf("%q: %v", text, f)
	}
	return all
}

// is holds all calls of a right name against how many labels are its public
// suffix.
func is(t *testing.T, x *suffix.Table, name string, want int) {
	t.Helper()
	if !host.Right(named(name)) {
		t.Fatalf("%q is no name", name)
	}
	labels := strings.Split(name, ".")
	site := ""
	if want < len(labels) {
		site = strings.Join(labels[len(labels)-want-1:], ".")
	}
	isAll(t, x, named(name), want, want == len(labels), site)
}

func isAll(t *testing.T, x *suffix.Table, h api.Host, count int, public bool, site string) {
	t.Helper()
	if got := x.Suffix(h); got != count {
		t.Errorf("Suffix(%.100v) = %d, not %d", h, got, count)
	}
	if got := x.Public(h); got != public {
		t.Errorf("Public(%.100v) = %v", h, got)
	}
	if got := x.Site(h); got != site {
		t.Errorf("Site(%.100v) = %.100q, not %q", h, got, site)
	}
}

// isNone: none of these rules matches anything.
func isNone(t *testing.T, all ...api.Rule) {
	t.Helper()
	x := suffix.New(all...)
	for _, name := range []string{"com", "a.com", "b.a.com", "c.b.a.com", "d.c.b.a.com", "a.b.c", "d.a.b.c", "a", "a.a", "a.a.a", "1.a", "2.1.a", strings.Repeat("a.", 126) + "a"} {
		is(t, x, name, 1)
	}
}

// P6.1

func TestNoRules(t *testing.T) {
	isNone(t)
	isNone(t, []api.Rule{}...)
	x := suffix.New()
	for _, name := range []string{"com", "local", "-", "_", "a.local", "b.a.local", "1.a", "xn--p1ai", "a.xn--p1ai", strings.Repeat("a", 63)} {
		is(t, x, name, 1)
	}
}

func TestNames(t *testing.T) {
	x := suffix.New(rules(t, "com co.uk github.io a.b.c.d -._ 1.a")...)
	for name, want := range map[string]int{
		"com": 1, "a.com": 1, "b.a.com": 1, "com.com": 1, "com.a": 1,
		"uk": 1, "co.uk": 2, "a.uk": 1, "a.co.uk": 2, "b.a.co.uk": 2, "co.uk.uk": 1, "uk.co": 1, "co.co.uk": 2, "xco.uk": 1, "a.xco.uk": 1, "co.ukx": 1, "co-uk": 1, "c.o.uk": 1,
		"io": 1, "a.io": 1, "github.io": 2, "me.github.io": 2, "x.me.github.io": 2, "hub.io": 1, "git.hub.io": 1,
		"d": 1, "c.d": 1, "b.c.d": 1, "x.c.d": 1, "a.b.c.d": 4, "x.b.c.d": 1, "x.a.b.c.d": 4, "y.x.a.b.c.d": 4,
		"_": 1, "-._": 2, "_.-._": 2, "a": 1, "1.a": 2, "2.a": 1, "1.1.a": 2,
	} {
		is(t, x, name, want)
	}
}

// A wild rule matches what is below its name, and not the name.
func TestWilds(t *testing.T) {
	x := suffix.New(rules(t, "*.ck *.b.jp *.x.y.z")...)
	for name, want := range map[string]int{
		"ck": 1, "a.ck": 2, "b.a.ck": 2, "c.b.a.ck": 2, "www.ck": 2, "ck.ck": 2, "a.ck.ck": 2, "xck": 1, "a.xck": 1, "ck.a": 1, "b.ck.a": 1,
		"jp": 1, "b.jp": 1, "c.jp": 1, "a.c.jp": 1, "a.b.jp": 3, "x.a.b.jp": 3, "y.x.a.b.jp": 3, "b.b.jp": 3,
		"z": 1, "y.z": 1, "x.y.z": 1, "w.x.y.z": 4, "v.w.x.y.z": 4, "w.v.y.z": 1,
	} {
		is(t, x, name, want)
	}
}

// An exception matches its name, and what is below it: one label less is
// public, even if the name has no other rule.
func TestExcepts(t *testing.T) {
	x := suffix.New(rules(t, "*.ck !www.ck !a.b !a.b.c.d")...)
	for name, want := range map[string]int{
		"ck": 1, "a.ck": 2, "www.ck": 1, "a.www.ck": 1, "b.a.www.ck": 1, "www.a.ck": 2, "xwww.ck": 2, "www.www.ck": 1, "www": 1, "ck.www": 1,
		"b": 1, "a.b": 1, "x.a.b": 1, "y.x.a.b": 1, "x.b": 1,
		"d": 1, "c.d": 1, "b.c.d": 1, "a.b.c.d": 3, "x.a.b.c.d": 3, "y.x.a.b.c.d": 3, "x.b.c.d": 1, "x.c.d": 1,
	} {
		is(t, x, name, want)
	}
}

func TestMostOfNamesAndWilds(t *testing.T) {
	for text, want := range map[string][5]int{
		// Of com, a.com, b.a.com, c.b.a.com and d.c.b.a.com.
		"com":                       {1, 1, 1, 1, 1},
		"a.com":                     {1, 2, 2, 2, 2},
		"b.a.com":                   {1, 1, 3, 3, 3},
		"c.b.a.com":                 {1, 1, 1, 4, 4},
		"d.c.b.a.com":               {1, 1, 1, 1, 5},
		"*.com":                     {1, 2, 2, 2, 2},
		"*.a.com":                   {1, 1, 3, 3, 3},
		"*.b.a.com":                 {1, 1, 1, 4, 4},
		"*.c.b.a.com":               {1, 1, 1, 1, 5},
		"*.d.c.b.a.com":             {1, 1, 1, 1, 1},
		"com a.com":                 {1, 2, 2, 2, 2},
		"com b.a.com":               {1, 1, 3, 3, 3},
		"a.com c.b.a.com":           {1, 2, 2, 4, 4},
		"com a.com b.a.com":         {1, 2, 3, 3, 3},
		"com *.com":                 {1, 2, 2, 2, 2},
		"a.com *.com":               {1, 2, 2, 2, 2},
		"b.a.com *.com":             {1, 2, 3, 3, 3},
		"a.com *.a.com":             {1, 2, 3, 3, 3},
		"com *.a.com":               {1, 1, 3, 3, 3},
		"*.com *.a.com":             {1, 2, 3, 3, 3},
		"*.com *.b.a.com":           {1, 2, 2, 4, 4},
		"*.a.com b.a.com":           {1, 1, 3, 3, 3},
		"*.com c.b.a.com":           {1, 2, 2, 4, 4},
		"*.com *.a.com *.b.a.com":   {1, 2, 3, 4, 4},
		"*.b.a.com a.com":           {1, 2, 2, 4, 4},
		"*.c.b.a.com b.a.com":       {1, 1, 3, 3, 5},
		"*.x.com x.com *.x *.a.x":   {1, 1, 1, 1, 1},
		"com.com *.com.com a.b.com": {1, 1, 1, 1, 1},
	} {
		isDown(t, text, want)
	}
}

// isDown holds names of one to five labels, each below the one ahead of it,
// against how many labels these rules tell of them.
func isDown(t *testing.T, text string, want [5]int) {
	t.Helper()
	x := suffix.New(rules(t, text)...)
	for i, name := range []string{"com", "a.com", "b.a.com", "c.b.a.com", "d.c.b.a.com"} {
		is(t, x, name, want[i])
	}
}

// An exception holds against all names and wilds, of more labels too; of two
// exceptions the one of more labels.
func TestExceptsAgainstOthers(t *testing.T) {
	for text, want := range map[string][5]int{
		// Of com, a.com, b.a.com, c.b.a.com and d.c.b.a.com.
		"!a.com":                             {1, 1, 1, 1, 1},
		"!b.a.com":                           {1, 1, 2, 2, 2},
		"!c.b.a.com":                         {1, 1, 1, 3, 3},
		"!d.c.b.a.com":                       {1, 1, 1, 1, 4},
		"!e.d.c.b.a.com":                     {1, 1, 1, 1, 1},
		"!a.com a.com":                       {1, 1, 1, 1, 1},
		"!a.com *.com":                       {1, 1, 1, 1, 1},
		"!a.com b.a.com":                     {1, 1, 1, 1, 1},
		"!a.com *.a.com":                     {1, 1, 1, 1, 1},
		"!a.com *.b.a.com c.b.a.com":         {1, 1, 1, 1, 1},
		"!b.a.com *.a.com":                   {1, 1, 2, 2, 2},
		"!b.a.com *.com":                     {1, 2, 2, 2, 2},
		"!b.a.com com b.a.com c.b.a.com":     {1, 1, 2, 2, 2},
		"!c.b.a.com *.a.com":                 {1, 1, 3, 3, 3},
		"!c.b.a.com *.b.a.com":               {1, 1, 1, 3, 3},
		"!d.c.b.a.com *.com b.a.com":         {1, 2, 3, 3, 4},
		"!a.com !b.a.com":                    {1, 1, 2, 2, 2},
		"!b.a.com !a.com":                    {1, 1, 2, 2, 2},
		"!a.com !c.b.a.com":                  {1, 1, 1, 3, 3},
		"!c.b.a.com !a.com":                  {1, 1, 1, 3, 3},
		"!a.com !b.a.com !c.b.a.com":         {1, 1, 2, 3, 3},
		"!b.a.com !c.b.a.com !a.com *.a.com": {1, 1, 2, 3, 3},
		"!x.com !x.a.com !a.x":               {1, 1, 1, 1, 1},
		"!x.com *.com":                       {1, 2, 2, 2, 2},
	} {
		isDown(t, text, want)
	}
}

func TestExamples(t *testing.T) {
	x := suffix.New(plain("com"), wild("ck"), except("www.ck"))
	isAll(t, x, named("a.b.com"), 1, false, "b.com")
	isAll(t, x, named("www.ck"), 1, false, "www.ck")
	isAll(t, x, named("a.ck"), 2, true, "")
	isAll(t, x, named("xyz"), 1, true, "")
}

func TestRulesThatAreNotRight(t *testing.T) {
	for _, name := range []string{"com", "a.com", "b.a.com", "a.b.c", "a", "a.a"} {
		for _, kind := range []int{0, 4, 5, 9, -1, -2, -3, 255, 256, 257, 258, 259, 1<<32 + 1, 1<<32 + 2, 1<<32 + 3, 1<<63 - 1, -1 << 63, -1<<63 + 1, -1<<63 + 3} {
			isNone(t, api.Rule{Kind: kind, Name: name})
			for _, mark := range []string{"*.", "!", "//", " "} {
				isNone(t, api.Rule{Kind: kind, Name: mark + name})
			}
		}
	}
	for kind := range 5 {
		for _, name := range []string{
			"", ".", "..", "A", "Com", "A.com", "a.COM", "a.b.C", ".com", "com.", "a..com", ".a.com", "a.com.", "*", "*.", "*.com", "*.a.com", "!a.com", "!!a.com", "*.*.com", "!", "//", "//a.com", "!b.a.com", "*.!b.a.com", "!*.a.com",
			" a.com", "a.com ", "a.com\t", "\ta.com", "a.com // x", "a.com x", " b.a.com", "b.a.com ", "b.a.com // x", "B.a.com", "b.a.Com", "b.a.com.", " ", "\t", "a.com\n", "a.com\r", "\na.com", "a.com\x00", "a\x00", "ä.com", "a.com\xff", "a/com", "a,com", "a.com:80", "a:1", "http://a.com",
			"1", "a.1", "1.2.3.4", "0.0.0.0", "1.2.3", "[::1]", "[::]", "::1",
			strings.Repeat("a", 64), strings.Repeat("a", 64) + ".com", strings.Repeat("a.", 126) + "aa", strings.Repeat("a.", 127) + "a",
		} {
			isNone(t, api.Rule{Kind: kind, Name: name})
		}
	}
	// Of an exception a label must be left.
	for _, name := range []string{"com", "a", "b", "c", "-", strings.Repeat("a", 63)} {
		isNone(t, except(name))
	}
	isNone(t, api.Rule{}, api.Rule{}, api.Rule{Kind: 3}, api.Rule{Kind: 2}, api.Rule{Kind: 1})
}

// Rules that aren't right stand beside others as if they weren't there.
func TestRulesBesideThoseThatAreNotRight(t *testing.T) {
	wrong := []api.Rule{{}, {Kind: 1}, {Kind: 9, Name: "a.com"}, {Kind: 4, Name: "b.a.com"}, {Kind: 3, Name: "com"}, {Kind: 3, Name: "ck"}, {Kind: 1, Name: "A.com"}, {Kind: 2, Name: "*.com"}, {Kind: 3, Name: "x.CK"}, {Kind: 1, Name: "1.2.3.4"}, {Kind: 0, Name: "a.ck"}}
	for at := range len(wrong) + 1 {
		all := slices.Concat(wrong[:at], []api.Rule{plain("com"), wild("ck"), except("www.ck")}, wrong[at:])
		x := suffix.New(all...)
		for name, want := range map[string]int{"com": 1, "a.com": 1, "b.a.com": 1, "c.b.a.com": 1, "x.com": 1, "ck": 1, "x.ck": 2, "a.ck": 2, "b.a.ck": 2, "www.ck": 1, "a.www.ck": 1} {
			is(t, x, name, want)
		}
	}
}

// deepest has 127 labels.
var deepest = strings.TrimSuffix(strings.Repeat("a.", 127), ".")

func TestDeepNames(t *testing.T) {
	for n := 1; n <= 127; n++ {
		name := deepest[len(deepest)-2*n+1:]
		is(t, suffix.New(plain(name)), deepest, n)
		is(t, suffix.New(plain(name)), name, n)
		if n < 127 {
			is(t, suffix.New(wild(name)), deepest, n+1)
			is(t, suffix.New(wild(name)), name, 1)
		}
		if n > 1 {
			is(t, suffix.New(except(name)), deepest, n-1)
			is(t, suffix.New(except(name), wild("a"), plain(deepest)), name, n-1)
		}
	}
	is(t, suffix.New(wild(deepest)), deepest, 1)
	label := strings.Repeat("b", 63)
	long := label + "." + label + "." + label + "." + label[:61]
	is(t, suffix.New(plain(long)), long, 4)
	is(t, suffix.New(except(long)), long, 3)
	is(t, suffix.New(wild(long[64:])), long, 4)
	is(t, suffix.New(wild(long[128:])), long, 3)
}

func TestManyRules(t *testing.T) {
	var all []api.Rule
	for i := range 30000 {
		all = append(all, api.Rule{Kind: i%3 + 1, Name: "x" + strconv.Itoa(i) + ".b" + strconv.Itoa(i%7) + ".com"})
	}
	x := suffix.New(all...)
	for i, r := range all {
		if i%100 > 3 {
			continue
		}
		is(t, x, r.Name, [4]int{1: 3, 2: 1, 3: 2}[r.Kind])
		is(t, x, "a."+r.Name, [4]int{1: 3, 2: 4, 3: 2}[r.Kind])
		is(t, x, "b.a."+r.Name, [4]int{1: 3, 2: 4, 3: 2}[r.Kind])
		is(t, x, "y"+r.Name, 1)
	}
}

// P6.2

// Addresses have no labels, and are their own sites.
func TestAddresses(t *testing.T) {
	for _, x := range tables(t) {
		for _, s := range []string{"1.2.3.4", "0.0.0.0", "255.255.255.255", "192.0.2.1", "[::]", "[::1]", "[2001:db8::1:0:0:1]", "[1:2:3:4:5:6:7:8]", "[::ffff:102:304]", "[::102:304]"} {
			h, e := host.Parse(s)
			if e != api.OK {
				t.Fatal(s)
			}
			isAll(t, x, h, 0, false, s)
		}
	}
}

// No call says anything of a host that isn't right.
func TestHostsThatAreNotRight(t *testing.T) {
	for _, x := range tables(t) {
		for _, h := range sample.WrongHosts() {
			isAll(t, x, h, 0, false, "")
		}
	}
}

// tables are of none, of few and of many rules, wrong ones too.
func tables(t *testing.T) []*suffix.Table {
	return []*suffix.Table{
		suffix.New(),
		suffix.New(plain("com")), suffix.New(wild("com")), suffix.New(except("a.com")),
		suffix.New(rules(t, "com *.ck !www.ck co.uk *.com !a.com b.a.com *.a")...),
		suffix.New(plain("1.2.3.4"), plain("4"), wild("3.4"), plain("[::1]"), plain(""), wild(""), except(""), api.Rule{}, plain("COM"), wild("A.com"), plain(deepest), wild(deepest)),
	}
}

func TestSites(t *testing.T) {
	x := suffix.New(rules(t, "com uk co.uk *.ck !www.ck jp *.b.jp !city.b.jp github.io !x.y.z.w")...)
	for name, site := range map[string]string{
		"com": "", "a.com": "a.com", "b.a.com": "a.com", "c.b.a.com": "a.com", "com.com": "com.com", "a.com.com": "com.com",
		"uk": "", "co.uk": "", "a.uk": "a.uk", "b.a.uk": "a.uk", "a.co.uk": "a.co.uk", "b.a.co.uk": "a.co.uk", "co.co.uk": "co.co.uk",
		"ck": "", "a.ck": "", "ck.ck": "", "b.a.ck": "b.a.ck", "c.b.a.ck": "b.a.ck", "www.ck": "www.ck", "a.www.ck": "www.ck", "b.a.www.ck": "www.ck", "www.a.ck": "www.a.ck",
		"jp": "", "b.jp": "b.jp", "c.jp": "c.jp", "x.c.jp": "c.jp", "a.b.jp": "", "x.a.b.jp": "x.a.b.jp", "y.x.a.b.jp": "x.a.b.jp", "city.b.jp": "city.b.jp", "a.city.b.jp": "city.b.jp", "b.a.city.b.jp": "city.b.jp",
		"io": "", "a.io": "a.io", "github.io": "", "me.github.io": "me.github.io", "x.me.github.io": "me.github.io",
		"w": "", "z.w": "z.w", "y.z.w": "z.w", "x.y.z.w": "x.y.z.w", "a.x.y.z.w": "x.y.z.w", "a.y.z.w": "z.w",
		"xyz": "", "local": "", "a.local": "a.local", "b.a.local": "a.local", "1.a": "1.a", "2.1.a": "1.a",
	} {
		if got := x.Site(named(name)); got != site {
			t.Errorf("Site of %q = %q, not %q", name, got, site)
		}
		if got := x.Public(named(name)); got != (site == "") {
			t.Errorf("Public of %q = %v", name, got)
		}
	}
}

// P6.3

// suffixRead says once more what the chapter says of a Suffix.
func suffixRead(all []api.Rule, name string) int {
	labels := func(r api.Rule) int { return strings.Count(r.Name, ".") + 1 }
	most, spared := 1, 0
	for _, r := range all {
		under := strings.HasSuffix(name, "."+r.Name)
		switch r.Kind {
		case 1:
			if under || name == r.Name {
				most = max(most, labels(r))
			}
		case 2:
			if under {
				most = max(most, labels(r)+1)
			}
		case 3:
			if labels(r) > 1 && (under || name == r.Name) {
				spared = max(spared, labels(r)-1)
			}
		}
	}
	if spared > 0 {
		return spared
	}
	return most
}

// rightNames are the names among these texts.
func rightNames(texts []string) []string {
	return slices.DeleteFunc(texts, func(s string) bool { return !host.Right(named(s)) })
}

// Of all rows of three rules, in each order, with repeats.
func TestManyTables(t *testing.T) {
	var names []string
	for _, s := range sample.Texts(4, "a.", "b.")[1:] {
		names = append(names, strings.TrimSuffix(s, "."))
	}
	var all []api.Rule
	for _, name := range []string{"a", "b", "a.a", "b.a", "a.b", "a.a.a", "b.a.a", "a.b.a"} {
		all = append(all, plain(name), wild(name), except(name))
	}
	for _, one := range all {
		for _, two := range all {
			for _, three := range all {
				row := []api.Rule{one, two, three}
				x := suffix.New(row...)
				for _, name := range names {
					if want := suffixRead(row, name); x.Suffix(named(name)) != want {
						t.Fatalf("Suffix of %q in %v = %d, not %d", name, row, x.Suffix(named(name)), want)
					}
				}
			}
		}
	}
}

// All calls, of many names in tables of many rules, which stand in several
// orders, and several times.
func TestOrdersAndRepeats(t *testing.T) {
	names := rightNames(sample.Texts(6, "a", "b", ".", "c."))
	for at := range 40 {
		var all []api.Rule
		for i := range 12 {
			all = append(all, api.Rule{Kind: (at+i)%3 + 1, Name: names[(at*131+i*(37+at))%len(names)]})
		}
		turned := slices.Clone(all)
		slices.Reverse(turned)
		for _, row := range [][]api.Rule{all, turned, slices.Concat(all[5:], all[:5]), slices.Concat(all, all), slices.Concat(turned, all[3:7], all, all[:1]), slices.Repeat(all[:6:6], 3)} {
			x := suffix.New(row...)
			for _, name := range names {
				is(t, x, name, suffixRead(row, name))
			}
		}
	}
}

func TestRepeatedRules(t *testing.T) {
	for _, r := range []api.Rule{plain("a.b"), wild("a.b"), except("a.b")} {
		once := suffix.New(r)
		for _, n := range []int{2, 3, 200, 201, 1000} {
			often := suffix.New(slices.Repeat([]api.Rule{r}, n)...)
			for _, name := range []string{"b", "a.b", "x.a.b", "y.x.a.b", "x.b", "a"} {
				is(t, often, name, once.Suffix(named(name)))
			}
		}
	}
}

// P1, P2

// answers writes down what all calls of some tables say of a text, as a name
// and as other hosts.
func answers(all []*suffix.Table) func(s string) string {
	return func(s string) string {
		text := ""
		h, _ := host.Parse(s)
		for _, x := range append(all, suffix.New(plain(s), wild("a")), suffix.New(except(s), wild(s))) {
			for _, one := range []api.Host{h, named(s), {Kind: 2, Name: s}, {Kind: len(s), Name: s}} {
				text += fmt.Sprint(x.Suffix(one), x.Public(one), x.Site(one), " ")
			}
		}
		return text
	}
}

func TestAnswersHangOnArgumentsAlone(t *testing.T) {
	all := sample.Texts(4, "a", "com", ".", "1.2.3.4", "[::1]", "B", "\xff", "!", "*.")
	for _, s := range sample.Unsteady(all, answers(tables(t))) {
		t.Errorf("%q: two answers", s)
	}
}

// What is asked of a table leaves it as it is, and so does another table.
func TestTablesStayAsTheyAre(t *testing.T) {
	x := suffix.New(plain("com"), wild("ck"))
	for _, name := range rightNames(sample.Texts(4, "a.", "com", "ck", ".", "b")) {
		x.Suffix(named(name))
		x.Public(named(name))
		x.Site(named(name))
		suffix.New(plain(name), except(name), wild(name))
	}
	for name, want := range map[string]int{"com": 1, "a.com": 1, "b.a.com": 1, "ck": 1, "a.ck": 2, "b.a.ck": 2, "b": 1, "a.b": 1} {
		is(t, x, name, want)
	}
}

// Rules that are handed in are neither changed nor kept, spare room included.
func TestRulesAreNotKept(t *testing.T) {
	room := []api.Rule{plain("co.uk"), wild("ck"), plain("X"), except("www.ck"), plain("ck"), plain("a.com"), {Kind: 9, Name: "spare"}}
	before := slices.Clone(room)
	given := room[:4]
	x := suffix.New(given...)
	if !slices.Equal(room, before) {
		t.Errorf("changed: %v", room)
	}
	for i := range room {
		room[i] = plain("b.a.ck")
	}
	for name, want := range map[string]int{"co.uk": 2, "a.co.uk": 2, "ck": 1, "a.ck": 2, "b.a.ck": 2, "c.b.a.ck": 2, "www.ck": 1, "a.com": 1, "b.a.com": 1} {
		is(t, x, name, want)
	}
	if !slices.Equal(room, slices.Repeat([]api.Rule{plain("b.a.ck")}, len(room))) {
		t.Errorf("changed: %v", room)
	}
}

func TestGreatTexts(t *testing.T) {
	const size = 1 << 22
	for _, unit := range []string{"a", ".", "a.", "1.", "*.", "!", " ", "\n", "\xff", "[", "//"} {
		s := strings.Repeat(unit, size/len(unit))
		for kind := -1; kind < 6; kind++ {
			isNone(t, api.Rule{Kind: kind, Name: s}, api.Rule{Kind: kind, Name: s + "com"})
		}
		for _, x := range tables(t) {
			for kind := range 5 {
				isAll(t, x, api.Host{Kind: kind, Name: s}, 0, false, "")
				isAll(t, x, api.Host{Kind: kind, Name: s + ".com"}, 0, false, "")
			}
		}
	}
}
