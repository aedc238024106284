package symbol_test

import (
	"fmt"
	"math/rand/v2"
	"slices"
	"strconv"
	"strings"
	"testing"

	"cracknel/sample"
	"cracknel/symbol"
	"cracknel/url"
)

// named are the bytes of Fresh, in the order in which the chapter names them.
var named = strings.Split("abcdefghijklmnopqrstuvwxyz0123456789-_", "")

// fresh are the texts of Fresh, those of at most three bytes, in order.
var fresh = sample.Texts(3, named...)[1:]

// odd are numbers far from all symbols, or symbols in another size.
var odd = []int{-1, -2, -3, -92, -93, -256, 1 << 8, 1 << 16, 1 << 31, 1<<31 - 1, 1 << 32, 1<<32 + 1, 1<<32 - 1, 1<<63 - 1, -1 << 63, -1<<63 + 1, -1 << 31, -1 << 32, -1<<32 + 1}

// before: does a text stand ahead of another one, byte by byte, a beginning
// ahead?
func before(a, b string) bool {
	for i := range min(len(a), len(b)) {
		if a[i] != b[i] {
			return a[i] < b[i]
		}
	}
	return len(a) < len(b)
}

// inOrder says once more what the chapter says of an alphabet's texts: each
// once, in order.
func inOrder(l []string) []string {
	var texts []string
	for _, s := range l {
		at := 0
		for at < len(texts) && before(texts[at], s) {
			at++
		}
		if at == len(texts) || texts[at] != s {
			texts = slices.Insert(texts, at, s)
		}
	}
	return texts
}

// firstFresh says once more what the chapter says of Fresh.
func firstFresh(t *testing.T, l []string) string {
	t.Helper()
	at := slices.IndexFunc(fresh, func(s string) bool { return !slices.Contains(l, s) })
	if at < 0 {
		t.Fatal("all are there")
	}
	return fresh[at]
}

// is: has an alphabet these texts, in order, and OTHER, with this Fresh,
// whatever it is asked?
func is(t *testing.T, a *symbol.Alphabet, unused string, texts ...string) {
	t.Helper()
	other := len(texts)
	if got := a.Len(); got != other+1 {
		t.Errorf("Len = %d, not %d", got, other+1)
	}
	for i, s := range texts {
		isAt(t, a, i, s)
	}
	isAt(t, a, other, unused)
	if got := a.Fresh(); got != unused {
		t.Errorf("Fresh = %.100q, not %.100q", got, unused)
	}
	for _, i := range slices.Concat(odd, []int{other + 1, other + 2, other + 256, -other, -other - 1}) {
		if got := a.Text(i); (i < 0 || i > other) && got != "" {
			t.Errorf("Text(%d) of %d = %.100q", i, other+1, got)
		}
	}
}

// isAt: is this the text of a symbol, and the symbol that of the text?
func isAt(t *testing.T, a *symbol.Alphabet, i int, s string) {
	t.Helper()
	if got := a.Text(i); got != s {
		t.Errorf("Text(%d) = %.100q, not %.100q", i, got, s)
	}
	if got := a.Of(s); got != i {
		t.Errorf("Of(%.100q) = %d, not %d", s, got, i)
	}
}

// isOther: is each of these texts none of an alphabet's?
func isOther(t *testing.T, a *symbol.Alphabet, all ...string) {
	t.Helper()
	for _, s := range all {
		if got := a.Of(s); got != a.Len()-1 {
			t.Errorf("Of(%.100q) = %d, not OTHER, %d", s, got, a.Len()-1)
		}
	}
}

// isRead: is an alphabet of this list what the second reading says it is?
func isRead(t *testing.T, l ...string) {
	t.Helper()
	is(t, symbol.New(l...), firstFresh(t, l), inOrder(l)...)
}

// P14.1

func TestExampleOfAlphabet(t *testing.T) {
	a := symbol.New("b", "a", "b")
	is(t, a, "c", "a", "b")
	isOther(t, a, "", "c", "aa", "ab", "B", "a ", " a", "A")
}

func TestNoTexts(t *testing.T) {
	for _, a := range []*symbol.Alphabet{symbol.New(), symbol.New([]string{}...), symbol.New(nil...)} {
		is(t, a, "a")
		isOther(t, a, "", "a", "b", "\x00", "OTHER", "0")
	}
}

func TestEmptyText(t *testing.T) {
	is(t, symbol.New(""), "a", "")
	isOther(t, symbol.New(""), "a", "\x00", " ")
	is(t, symbol.New("", ""), "a", "")
	is(t, symbol.New("b", ""), "a", "", "b")
	is(t, symbol.New("b", "", "a", ""), "c", "", "a", "b")
	is(t, symbol.New("\x00", ""), "a", "", "\x00")
}

func TestRepeatedTexts(t *testing.T) {
	for _, n := range []int{1, 2, 3, 7, 512, 513, 100000} {
		is(t, symbol.New(slices.Repeat([]string{"a"}, n)...), "b", "a")
		is(t, symbol.New(slices.Repeat([]string{"com"}, n)...), "a", "com")
		is(t, symbol.New(slices.Repeat([]string{"b", "", "a", "b"}, n)...), "c", "", "a", "b")
		is(t, symbol.New(append(slices.Repeat([]string{"b"}, n), "a", "c")...), "d", "a", "b", "c")
	}
}

// An alphabet is of texts, in whatever order they come.
func TestOrders(t *testing.T) {
	texts := []string{"", "\x01", "A", "a", "a\x00", "aa"}
	var place func(l []string, rest []string)
	place = func(l []string, rest []string) {
		if len(rest) == 0 {
			is(t, symbol.New(l...), "b", texts...)
		}
		for i := range rest {
			place(append(l, rest[i]), slices.Delete(slices.Clone(rest), i, i+1))
		}
	}
	place(nil, texts)
}

// Of texts that begin alike, the shorter one stands ahead.
func TestBeginnings(t *testing.T) {
	is(t, symbol.New("ab", "abc", "a", "b", "abb", "aba", "ac", ""), "c", "", "a", "ab", "aba", "abb", "abc", "ac", "b")
	is(t, symbol.New("example", "exam", "com", "co", "c", "example.com"), "a", "c", "co", "com", "exam", "example", "example.com")
	is(t, symbol.New("10", "9", "1", "100", "2"), "a", "1", "10", "100", "2", "9")
	is(t, symbol.New("a", "a\x00", "a\x00\x00", "a\xff", "a ", "\x00a", "\x00"), "b", "\x00", "\x00a", "a", "a\x00", "a\x00\x00", "a ", "a\xff")
	deep := strings.Repeat("x", 300)
	var all []string
	for n := range len(deep) + 1 {
		all = append(all, deep[:n])
	}
	turned := slices.Clone(all)
	slices.Reverse(turned)
	is(t, symbol.New(turned...), "a", all...)
}

// Texts are bytes, neither letters nor code points.
func TestOddBytes(t *testing.T) {
	is(t, symbol.New("\xff", "\x80", "\x7f", "\x1f", "\x00", "\n", " ", "~", "\xc3\xa4", "\xc3", "\xe2\x82\xac", "\xf0\x9f\x8d\xaa", "\xef\xbf\xbd"), "a",
		"\x00", "\n", "\x1f", " ", "~", "\x7f", "\x80", "\xc3", "\xc3\xa4", "\xe2\x82\xac", "\xef\xbf\xbd", "\xf0\x9f\x8d\xaa", "\xff")
	a := symbol.New("\xef\xbf\xbd")
	isOther(t, a, "\xff", "\x80", "\xef", "\xef\xbf", "\xc3\xa4", "?", "")
	a = symbol.New("a", "\xff")
	isOther(t, a, "A", "\xef\xbf\xbd", "\xfe", "a\x00", "\x00a", "\x00", "a\xff")
	var all []string
	for c := range 256 {
		all = append(all, string([]byte{byte(c)}))
	}
	is(t, symbol.New(all...), "aa", all...)
	for _, s := range all {
		others := slices.DeleteFunc(slices.Clone(all), func(one string) bool { return one == s })
		a := symbol.New(others...)
		isOther(t, a, s, s+s, "")
		if got, want := a.Fresh(), firstFresh(t, others); got != want {
			t.Errorf("Fresh = %q without %q", got, s)
		}
	}
}

// Of a text that is none, OTHER tells, wherever among the texts it would stand.
func TestOthers(t *testing.T) {
	a := symbol.New("com", "example", "b")
	is(t, a, "a", "b", "com", "example")
	isOther(t, a, "", "a", "\x00", "Z", "b\x00", "ba", "c", "co", "coM", "com\x00", "com ", "comb", "con", "d", "exampl", "examplf", "examples", "f", "z", "~", "\x7f", "\xff", "b,com", "b\ncom", "OTHER", "0", "1", "2", "3")
	isOther(t, a, " b", "b ", "B", "COM", "b.com", ".b", "b.")
}

// Of Fresh, OTHER tells too: it is one of all other texts.
func TestFreshIsOther(t *testing.T) {
	l := []string{"b", "com"}
	for range 50 {
		a := symbol.New(l...)
		isOther(t, a, a.Fresh())
		l = append(l, a.Fresh())
	}
	isRead(t, l...)
}

func TestFreshOfOneByte(t *testing.T) {
	for i, s := range named {
		is(t, symbol.New(named[:i]...), s, inOrder(named[:i])...)
		without := slices.Concat(named[:i], named[i+1:])
		is(t, symbol.New(without...), s, inOrder(without)...)
		if got := symbol.New(slices.Concat(without, fresh[38:])...).Fresh(); got != s {
			t.Errorf("Fresh = %q, not %q", got, s)
		}
		isRead(t, s)
		// Of two that aren't there, the one that is named first.
		for j := range i {
			if got := symbol.New(slices.Concat(without[:j], without[j+1:])...).Fresh(); got != named[j] {
				t.Errorf("Fresh = %q, not %q, ahead of %q", got, named[j], s)
			}
		}
	}
}

func TestFreshOfMoreBytes(t *testing.T) {
	if fresh[38] != "aa" || fresh[38+37] != "a_" || fresh[38+38] != "ba" || fresh[38+38*38-1] != "__" || fresh[38+38*38] != "aaa" {
		t.Fatal("not in order")
	}
	// All that stand ahead of one are there: that one is Fresh.
	for _, n := range []int{0, 1, 25, 26, 35, 36, 37, 38, 39, 40, 63, 64, 74, 75, 76, 77, 113, 114, 500, 1443, 1444, 1480, 1481, 1482, 1483, 1519, 1520, 1521, 2925, 2926, 2927, 20000, 56352, 56353} {
		a := symbol.New(fresh[:n]...)
		if got := a.Fresh(); got != fresh[n] {
			t.Errorf("Fresh of %d = %q, not %q", n, got, fresh[n])
		}
		if got := a.Text(n); got != fresh[n] {
			t.Errorf("Text(%d) = %q, not %q", n, got, fresh[n])
		}
		isOther(t, a, fresh[n:]...)
	}
	if got := symbol.New(fresh...).Fresh(); got != "aaaa" {
		t.Errorf("Fresh = %q", got)
	}
	// All but one of two bytes are there, and all others of one to three.
	for n := 38; n < 38+38*38; n += 41 {
		if got := symbol.New(slices.Concat(fresh[:n], fresh[n+1:])...).Fresh(); got != fresh[n] {
			t.Errorf("Fresh = %q, not %q", got, fresh[n])
		}
	}
	isRead(t, slices.Concat(fresh[38:100], named[:37])...)
	isRead(t, slices.Concat(fresh[38:100], named)...)
	isRead(t, slices.Concat(named, []string{"ab", "ad", "b", "ba"})...)
}

// Texts that Fresh can't be are in nobody's way.
func TestFreshBesideOtherTexts(t *testing.T) {
	for l, want := range map[string]string{
		"a a": "b", "a b a b a": "c", "b c d": "a", "A B a": "b", "aa ab b": "a", "a aa b ab c": "d", "0 - _ a": "b", "A": "a", "a. .a a": "b", "a\x00 \x00a": "a", "a\xff \xff": "a", "a a_ a- _": "b", "z": "a", "a c": "b",
	} {
		if got := symbol.New(strings.Split(l, " ")...).Fresh(); got != want {
			t.Errorf("Fresh of %q = %q, not %q", l, got, want)
		}
	}
	// Where all of one byte are there, a great letter and a point are still none
	// of Fresh's, and a text that stands twice counts as it does once.
	for want, more := range map[string][]string{"aa": {"a", "_", "aA", "a.", "AA", "a", ""}, "ab": {"aa", "a", "aa"}, "ac": {"ab", "aa", "ad"}} {
		l := slices.Concat(named, more)
		is(t, symbol.New(l...), want, inOrder(l)...)
	}
}

// Of all rows of four short texts.
func TestManyAlphabets(t *testing.T) {
	texts := sample.Texts(2, "a", "b", "\x00", "\xff")[:12]
	for _, one := range texts {
		for _, two := range texts {
			for _, three := range texts {
				for _, four := range texts {
					isRead(t, one, two, three, four)
				}
			}
		}
	}
}

// Of many rows of more texts, with repeats, and of texts that are none.
func TestLongRows(t *testing.T) {
	r := rand.New(rand.NewPCG(14, 1))
	pools := [][]string{fresh[:45], sample.Texts(3, "a", "b", "A"), sample.Texts(4, "\x00", "a", "\xff"), slices.Concat(fresh[:90], []string{"", "com", "example", "1.2.3.4", "[::1]", "\xff"})}
	for range 400 {
		pool := pools[r.IntN(len(pools))]
		var l, others []string
		for range r.IntN(2 * len(pool)) {
			l = append(l, pool[r.IntN(len(pool))])
		}
		isRead(t, l...)
		for _, s := range slices.Concat(pool, []string{"z", "zz", "\x01"}) {
			if !slices.Contains(l, s) {
				others = append(others, s)
			}
		}
		isOther(t, symbol.New(l...), others...)
	}
}

func TestManyTexts(t *testing.T) {
	const many = 300000
	var l []string
	for i := range many {
		l = append(l, strconv.Itoa(i*7%many))
	}
	l = append(l, l[:1000]...)
	a := symbol.New(l...)
	texts := slices.Clone(l[:many])
	slices.Sort(texts)
	is(t, a, "a", texts...)
	isOther(t, a, strconv.Itoa(many), "", "00", "a", "-1", "~")
}

// P14.2

// pathBytes: the bytes of paths, in order, as the chapter tells them.
func pathBytes() []byte {
	var all []byte
	for c := 33; c <= 126; c++ {
		if c != '?' && c != '#' {
			all = append(all, byte(c))
		}
	}
	return all
}

// isBytes holds what Bytes says of a text against the second reading.
func isBytes(t *testing.T, s string) {
	t.Helper()
	var want []int
	all := true
	for i := range len(s) {
		at := slices.Index(pathBytes(), s[i])
		want = append(want, at)
		all = all && at >= 0
	}
	if !all {
		want = nil
	}
	if got, ok := symbol.Bytes(s); !slices.Equal(got, want) || ok != all {
		t.Errorf("Bytes(%.100q) = %.100v, %v", s, fmt.Sprint(got), ok)
	}
}

// isFrom holds what FromBytes says of symbols against the second reading.
func isFrom(t *testing.T, l ...int) {
	t.Helper()
	want := ""
	all := true
	for _, x := range l {
		if x < 0 || x > 91 {
			all = false
			break
		}
		want += string(rune(pathBytes()[x]))
	}
	if !all {
		want = ""
	}
	if got, ok := symbol.FromBytes(l...); got != want || ok != all {
		t.Errorf("FromBytes(%.100v) = %.100q, %v", fmt.Sprint(l), got, ok)
	}
}

func TestExampleOfBytes(t *testing.T) {
	if got, ok := symbol.Bytes("/"); !slices.Equal(got, []int{13}) || !ok {
		t.Errorf("%v, %v", got, ok)
	}
	if symbol.PathSymbols != 92 || len(pathBytes()) != symbol.PathSymbols {
		t.Errorf("%d symbols", symbol.PathSymbols)
	}
}

func TestEmptyPath(t *testing.T) {
	if got, ok := symbol.Bytes(""); len(got) != 0 || !ok {
		t.Errorf("%v, %v", got, ok)
	}
	for _, l := range [][]int{nil, {}} {
		if got, ok := symbol.FromBytes(l...); got != "" || !ok {
			t.Errorf("%q, %v", got, ok)
		}
	}
}

func TestBytesInOrder(t *testing.T) {
	want := map[byte]int{'!': 0, '"': 1, '$': 2, '%': 3, '-': 11, '.': 12, '/': 13, '0': 14, '9': 23, ':': 24, '=': 27, '>': 28, '@': 29, 'A': 30, 'Z': 55, '[': 56, '\\': 57, '_': 60, '`': 61, 'a': 62, 'z': 87, '{': 88, '~': 91}
	for c, x := range want {
		if got, ok := symbol.Bytes(string([]byte{c})); !slices.Equal(got, []int{x}) || !ok {
			t.Errorf("Bytes(%q) = %v, %v", c, got, ok)
		}
		if got, ok := symbol.FromBytes(x); got != string([]byte{c}) || !ok {
			t.Errorf("FromBytes(%d) = %q, %v", x, got, ok)
		}
	}
	for _, c := range []byte{0, 9, 10, 13, 31, 32, '#', '?', 127, 128, 0xc3, 254, 255} {
		if got, ok := symbol.Bytes(string([]byte{c})); len(got) != 0 || ok {
			t.Errorf("Bytes(%q) = %v, %v", c, got, ok)
		}
	}
}

// Each byte, at each place of texts; the bytes are those of layer 4's paths.
func TestEachByteAtEachPlace(t *testing.T) {
	for c := range 256 {
		one := string([]byte{byte(c)})
		isBytes(t, one)
		if _, ok := symbol.Bytes(one); ok != url.Path("/"+one) {
			t.Errorf("Bytes(%q): %v", one, ok)
		}
		for _, s := range []string{"/", "/a", "!~", "/a/b.c", "/\xff/", "?#", strings.Repeat("/x", 40)} {
			for i := range len(s) + 1 {
				isBytes(t, s[:i]+one+s[i:])
				isBytes(t, s[:i]+one+s[min(i+1, len(s)):])
			}
		}
		for d := range 256 {
			isBytes(t, string([]byte{byte(c), byte(d)}))
		}
	}
}

func TestTextsThatAreNoPaths(t *testing.T) {
	for _, s := range append(sample.WrongPaths(), "/\u00e4", "\u00e4", "/\u2044", "\u1e3b", "/a\u0000", "//", "a", "///", "\"") {
		isBytes(t, s)
	}
}

// Each number, at each place of lists.
func TestEachNumberAtEachPlace(t *testing.T) {
	all := slices.Clone(odd)
	for x := -300; x < 600; x++ {
		all = append(all, x)
	}
	for _, x := range all {
		isFrom(t, x)
		for _, l := range [][]int{{0}, {91}, {13, 62}, {13, -1, 0}, {92, 92}, {13, 62, 63, 64, 13, 91, 0}} {
			for i := range len(l) + 1 {
				isFrom(t, slices.Insert(slices.Clone(l), i, x)...)
			}
		}
		for _, y := range []int{-1, 0, 1, 2, 13, 28, 29, 90, 91, 92} {
			isFrom(t, x, y)
			isFrom(t, y, x)
		}
	}
}

func TestThereAndBack(t *testing.T) {
	for x := range symbol.PathSymbols {
		for y := range symbol.PathSymbols {
			isBack(t, x, y)
		}
		isBack(t, x)
		isBack(t, slices.Repeat([]int{x}, 2048)...)
	}
	var each []int
	for x := range symbol.PathSymbols {
		each = append(each, x)
	}
	isBack(t, each...)
	isBack(t, slices.Repeat(each, 1000)...)
	if s, ok := symbol.FromBytes(each...); s != string(pathBytes()) || !ok {
		t.Errorf("%q, %v", s, ok)
	}
}

// isBack: are these the symbols of their text?
func isBack(t *testing.T, l ...int) {
	t.Helper()
	s, ok := symbol.FromBytes(l...)
	if len(s) != len(l) || !ok {
		t.Errorf("FromBytes(%.100v) = %.100q, %v", fmt.Sprint(l), s, ok)
	}
	if got, ok := symbol.Bytes(s); !slices.Equal(got, l) || !ok {
		t.Errorf("Bytes(%.100q) = %.100v, %v", s, fmt.Sprint(got), ok)
	}
}

// The symbols' order is the bytes' order.
func TestOrderOfBytes(t *testing.T) {
	last := -1
	for c := range 256 {
		if l, ok := symbol.Bytes(string([]byte{byte(c)})); ok {
			if len(l) != 1 || l[0] != last+1 {
				t.Fatalf("Bytes(%q) = %v behind %d", byte(c), l, last)
			}
			last = l[0]
		}
	}
	if last != 91 {
		t.Errorf("the last one is %d", last)
	}
}

// P1, P2

// answers writes down what all calls say of a text, and of alphabets of it.
func answers(all []*symbol.Alphabet) func(s string) string {
	return func(s string) string {
		l, ok := symbol.Bytes(s)
		back, good := symbol.FromBytes(l...)
		text := fmt.Sprint(l, ok, back, good)
		for _, a := range append(all, symbol.New(s), symbol.New(s, "a", s+"b"), symbol.New(strings.Split(s, "")...)) {
			text += fmt.Sprintf("%d %d %q %q %q ", a.Len(), a.Of(s), a.Text(a.Of(s)), a.Text(len(s)), a.Fresh())
		}
		return text
	}
}

func TestAnswersHangOnArgumentsAlone(t *testing.T) {
	alphabets := []*symbol.Alphabet{symbol.New(), symbol.New("a", "com", "b"), symbol.New(named...)}
	texts := sample.Texts(4, "a", "com", ".", "/", "?", "\xff", "_")
	for _, s := range sample.Unsteady(texts, answers(alphabets)) {
		t.Errorf("%q: two answers", s)
	}
}

// What is asked of an alphabet leaves it as it is, and so does another one.
func TestAlphabetsStayAsTheyAre(t *testing.T) {
	l := []string{"com", "a", "b"}
	a := symbol.New(l...)
	none := symbol.New()
	for _, s := range sample.Texts(4, "a", "c", "com", "\x00", "z") {
		a.Of(s)
		none.Of(s)
		a.Text(len(s) - 2)
		a.Fresh()
		symbol.New(s, s+"a", "c", "d")
		symbol.New(append(l, a.Fresh(), s)...)
	}
	is(t, a, "c", "a", "b", "com")
	is(t, none, "a")
	isOther(t, a, "c", "ac", "comcom")
}

// A list that is handed in is neither changed nor kept, spare room included.
func TestTextsAreNotKept(t *testing.T) {
	for n := range 7 {
		room := []string{"com", "b", "a", "b", "", "com", "spare"}
		before := slices.Clone(room)
		a := symbol.New(room[:n]...)
		if !slices.Equal(room, before) {
			t.Errorf("changed: %q", room)
		}
		unused, texts := firstFresh(t, before[:n]), inOrder(before[:n])
		for _, s := range []string{"x", "c", "", "zz", unused} {
			for i := range room {
				room[i] = s
			}
			is(t, a, unused, texts...)
		}
		if !slices.Equal(room, slices.Repeat([]string{unused}, len(room))) {
			t.Errorf("changed: %q", room)
		}
	}
}

// Texts that stand in order already, each once, are no other case.
func TestTextsInOrderAreNotKept(t *testing.T) {
	room := []string{"a", "b", "c", "d"}
	a := symbol.New(room[:3]...)
	room[0], room[1], room[2], room[3] = "z", "y", "x", "w"
	is(t, a, "d", "a", "b", "c")
	if !slices.Equal(room, []string{"z", "y", "x", "w"}) {
		t.Errorf("changed: %q", room)
	}
}

// Symbols that are handed in are neither changed nor kept, and those that are
// answered are new, spare room too.
func TestSymbolsAreNotShared(t *testing.T) {
	room := []int{13, 62, 63, 13, -7, 400}
	for n := range len(room) + 1 {
		before := slices.Clone(room)
		s, ok := symbol.FromBytes(room[:n]...)
		if !slices.Equal(room, before) {
			t.Errorf("changed: %v", room)
		}
		for i := range room {
			room[i] = 91
		}
		if again, good := symbol.FromBytes(before[:n]...); s != again || ok != good {
			t.Errorf("%q, %v and %q, %v", s, ok, again, good)
		}
		copy(room, before)
	}
	for _, s := range []string{"", "/", "/a", "/abc/def", strings.Repeat("/x", 500)} {
		one, _ := symbol.Bytes(s)
		two, _ := symbol.Bytes(s)
		full := one[:cap(one)]
		for i := range full {
			full[i] = -5
		}
		if back, ok := symbol.FromBytes(two...); back != s || !ok {
			t.Errorf("%q: %q, %v", s, back, ok)
		}
		isBytes(t, s)
	}
}

func TestGreatTexts(t *testing.T) {
	const size = 1 << 22
	a := symbol.New("a", "com")
	for _, unit := range []string{"a", "\x00", "/", "\xff", "_", "?"} {
		s := strings.Repeat(unit, size)
		isOther(t, a, s)
		is(t, symbol.New(s+"b", s, "", s+"b"), "a", "", s, s+"b")
		isOther(t, symbol.New(s), s[1:], s+"a")
		for _, whole := range []string{s, "?" + s, s + "?", s + "\x80"} {
			fine := strings.Contains("a/_", unit) && whole == s
			l, ok := symbol.Bytes(whole)
			if ok != fine || !ok && len(l) != 0 || ok && len(l) != size {
				t.Errorf("Bytes of many %q: %d symbols, %v", unit, len(l), ok)
			}
			if back, ok := symbol.FromBytes(l...); !ok || fine && back != s || !fine && back != "" {
				t.Errorf("FromBytes of %d symbols: %d bytes, %v", len(l), len(back), ok)
			}
			if back, ok := symbol.FromBytes(append(l, 92)...); back != "" || ok {
				t.Errorf("FromBytes of %d symbols: %d bytes, %v", len(l)+1, len(back), ok)
			}
		}
	}
}
