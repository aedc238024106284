package octet_test

import (
	"fmt"
	"slices"
	"strings"
	"testing"

	"cracknel/octet"
	"cracknel/sample"
)

// alphabet has the bytes of which any call of this layer makes a difference.
const alphabet = "\x00\t\n\r !%,0129@AFZ[`afz{~\x7f\x80\xff"

// texts answers all texts of at most n bytes of the alphabet.
func texts(n int) []string {
	var parts []string
	for i := range len(alphabet) {
		parts = append(parts, alphabet[i:i+1])
	}
	return sample.Texts(n, parts...)
}

func oneByte(c int) string { return string([]byte{byte(c)}) }

// P1.1

func TestLowerFoldsLettersAlone(t *testing.T) {
	for c := range 256 {
		want := byte(c)
		if at := strings.IndexByte("ABCDEFGHIJKLMNOPQRSTUVWXYZ", byte(c)); at >= 0 {
			want = "abcdefghijklmnopqrstuvwxyz"[at]
		}
		s, folded := "x"+oneByte(c)+"X", "x"+string([]byte{want})+"x"
		if got := octet.Lower(s); got != folded {
			t.Errorf("Lower(%q) = %q, not %q", s, got, folded)
		}
	}
}

func TestLower(t *testing.T) {
	for s, want := range map[string]string{
		"":                            "",
		"a.Example.COM":               "a.example.com",
		"\u212a\u00c4\u0130":          "\u212a\u00c4\u0130",
		"\xc3A\xff":                   "\xc3a\xff",
		"\x00 \t@[`{":                 "\x00 \t@[`{",
		strings.Repeat("Ab", 1<<15):   strings.Repeat("ab", 1<<15),
		"ABCDEFGHIJKLMNOPQRSTUVWXYZ":  "abcdefghijklmnopqrstuvwxyz",
		"abcdefghijklmnopqrstuvwxyz_": "abcdefghijklmnopqrstuvwxyz_",
	} {
		if got := octet.Lower(s); got != want {
			t.Errorf("Lower(%q) = %q, not %q", s, got, want)
		}
	}
}

func TestSame(t *testing.T) {
	for _, row := range []struct {
		a, b string
		want bool
	}{
		{"", "", true},
		{"", "a", false},
		{"SameSite", "sAMEsITE", true},
		{"max-age", "Max-Age", true},
		{"ab", "abc", false},
		{"abc", "ab", false},
		{"ab", "ac", false},
		{"ba", "ca", false},
		{"@", "`", false},
		{"[", "{", false},
		{"k", "\u212a", false},
		{"\xc4", "\xe4", false},
		{"s", "\u017f", false},
		{" a", "a", false},
	} {
		if octet.Same(row.a, row.b) != row.want || octet.Same(row.b, row.a) != row.want {
			t.Errorf("Same(%q, %q) isn't %v", row.a, row.b, row.want)
		}
	}
}

func TestSameIsLowerOfBoth(t *testing.T) {
	all := texts(2)
	for _, a := range all {
		for _, b := range all {
			if octet.Same(a, b) != (octet.Lower(a) == octet.Lower(b)) {
				t.Errorf("Same(%q, %q) = %v", a, b, octet.Same(a, b))
			}
		}
	}
	for a := range 256 {
		for b := range 256 {
			x, y := oneByte(a), oneByte(b)
			if octet.Same(x, y) != (octet.Lower(x) == octet.Lower(y)) {
				t.Errorf("Same(%q, %q) = %v", x, y, octet.Same(x, y))
			}
		}
	}
}

func TestTrim(t *testing.T) {
	for s, want := range map[string]string{
		"":           "",
		" ":          "",
		"\t":         "",
		" \t \t\t ":  "",
		"a":          "a",
		" a":         "a",
		"a\t":        "a",
		"\t a \t":    "a",
		" a \t b ":   "a \t b",
		"\na\r":      "\na\r",
		" \n ":       "\n",
		"\v\f\x00":   "\v\f\x00",
		"\u00a0a":    "\u00a0a",
		"\x85a\xa0":  "\x85a\xa0",
		"\u2003a ":   "\u2003a",
		"\x1f!\x7f ": "\x1f!\x7f",
	} {
		if got := octet.Trim(s); got != want {
			t.Errorf("Trim(%q) = %q, not %q", s, got, want)
		}
	}
}

func TestTrimTakesTwoBytesAlone(t *testing.T) {
	for c := range 256 {
		s := oneByte(c)
		want := s
		if c == 32 || c == 9 {
			want = ""
		}
		if got := octet.Trim(s); got != want {
			t.Errorf("Trim(%q) = %q", s, got)
		}
		if got := octet.Trim(s + "a" + s); got != want+"a"+want {
			t.Errorf("Trim around %q: %q", s, got)
		}
	}
}

func TestDigits(t *testing.T) {
	for c := range 256 {
		want := strings.IndexByte("0123456789", byte(c)) >= 0
		for _, s := range []string{oneByte(c), oneByte(c) + "1", "1" + oneByte(c), "1" + oneByte(c) + "1"} {
			if octet.Digits(s) != want {
				t.Errorf("Digits(%q) isn't %v", s, want)
			}
		}
	}
	for s, want := range map[string]bool{
		"":                         false,
		"00":                       true,
		"0123456789":               true,
		strings.Repeat("9", 1<<16): true,
		"-1":                       false,
		"1.0":                      false,
		"\u0661":                   false,
		" 1":                       false,
	} {
		if octet.Digits(s) != want {
			t.Errorf("Digits(%.30q) isn't %v", s, want)
		}
	}
}

func TestNumber(t *testing.T) {
	for s, want := range map[string]int64{
		"0":                  0,
		"1":                  1,
		"9":                  9,
		"10":                 10,
		"443":                443,
		"65536":              65536,
		"9876543210":         9876543210,
		"4294967296":         1 << 32,
		"1099511627776":      1 << 40,
		"100000000000000000": 100000000000000000,
		"123456789012345678": 123456789012345678,
		"999999999999999999": 999999999999999999,
	} {
		if got, ok := octet.Number(s); !ok || got != want {
			t.Errorf("Number(%q) = %d, %v", s, got, ok)
		}
	}
	for n := range 2000 {
		if got, ok := octet.Number(fmt.Sprint(n)); !ok || got != int64(n) {
			t.Errorf("Number(%d) = %d, %v", n, got, ok)
		}
	}
}

func TestNoNumber(t *testing.T) {
	for _, s := range []string{
		"", "00", "01", "007", "000000000000000000", "0x1", "1_0", "+1", "-1", "-0", " 1", "1 ", "1\n", "1a", "a1", "1.0", "1e3",
		"1000000000000000000", "9223372036854775807", "0999999999999999999", "\u0661", strings.Repeat("1", 1<<16),
	} {
		if got, ok := octet.Number(s); ok || got != 0 {
			t.Errorf("Number(%.30q) = %d, %v", s, got, ok)
		}
	}
}

// P1.2

func TestSplit(t *testing.T) {
	for _, row := range []struct {
		s    string
		at   byte
		want []string
	}{
		{"", ',', []string{""}},
		{",", ',', []string{"", ""}},
		{"a", ',', []string{"a"}},
		{"a,b", ',', []string{"a", "b"}},
		{",a,,b,", ',', []string{"", "a", "", "b", ""}},
		{"a;b", ',', []string{"a;b"}},
		{"a\x00b\x00", 0, []string{"a", "b", ""}},
		{"\xc3\xa4", 0xc3, []string{"", "\xa4"}},
		{"\xff", 0xff, []string{"", ""}},
		{" a ; b ", ';', []string{" a ", " b "}},
	} {
		if got := octet.Split(row.s, row.at); !slices.Equal(got, row.want) {
			t.Errorf("Split(%q, %q) = %q", row.s, row.at, got)
		}
	}
}

func TestSplitPartsAllTexts(t *testing.T) {
	for _, s := range texts(3) {
		for i := range len(alphabet) {
			at := alphabet[i : i+1]
			if got := octet.Split(s, at[0]); !slices.Equal(got, strings.Split(s, at)) {
				t.Fatalf("Split(%q, %q) = %q", s, at, got)
			}
		}
	}
}

func TestLines(t *testing.T) {
	for _, row := range []struct {
		s    string
		want []string
	}{
		{"", nil},
		{"\n", []string{""}},
		{"\n\n", []string{"", ""}},
		{"a", []string{"a"}},
		{"a\n", []string{"a"}},
		{"a\n\n", []string{"a", ""}},
		{"\na", []string{"", "a"}},
		{"a\r\nb", []string{"a", "b"}},
		{"a\r\nb\r", []string{"a", "b"}},
		{"a\r\r\nb\r\r\r", []string{"a\r", "b\r\r"}},
		{"\r", []string{""}},
		{"\r\n", []string{""}},
		{"a\n\r", []string{"a", ""}},
		{"\n\r\n", []string{"", ""}},
		{"\ra\rb", []string{"\ra\rb"}},
		{"a\n\rb", []string{"a", "\rb"}},
		{" a \t\n#", []string{" a \t", "#"}},
		{"a\vb\u2028c\x85", []string{"a\vb\u2028c\x85"}},
	} {
		if got := octet.Lines(row.s); !slices.Equal(got, row.want) {
			t.Errorf("Lines(%q) = %q, not %q", row.s, got, row.want)
		}
	}
}

// Of all texts: what Lines says once more, by the library's means.
func TestLinesOfAllTexts(t *testing.T) {
	for _, s := range append(texts(3), "a\r\n\r\nb", "\r\n\r\n", "\n\r\n\r") {
		want := strings.Split(s, "\n")
		if s == "" || strings.HasSuffix(s, "\n") {
			want = want[:len(want)-1]
		}
		for i := range want {
			want[i] = strings.TrimSuffix(want[i], "\r")
		}
		if got := octet.Lines(s); !slices.Equal(got, want) {
			t.Fatalf("Lines(%q) = %q, not %q", s, got, want)
		}
	}
}

func TestWords(t *testing.T) {
	for _, row := range []struct {
		s    string
		want []string
	}{
		{"a", []string{"a"}},
		{"set http://h/ a=1", []string{"set", "http://h/", "a=1"}},
		{"a b\tc", []string{"a", "b\tc"}},
		{"\t \n", []string{"\t", "\n"}},
		{"\xff \x00", []string{"\xff", "\x00"}},
		{"\u00a0 a", []string{"\u00a0", "a"}},
	} {
		if got, ok := octet.Words(row.s); !ok || !slices.Equal(got, row.want) {
			t.Errorf("Words(%q) = %q, %v", row.s, got, ok)
		}
	}
	for _, s := range []string{"", " ", "  ", " a", "a ", "a  b", "a b ", " a b", "a b  c"} {
		if got, ok := octet.Words(s); ok || len(got) != 0 {
			t.Errorf("Words(%q) = %q, %v", s, got, ok)
		}
	}
}

func TestWordsOfAllTexts(t *testing.T) {
	for _, s := range texts(3) {
		want := strings.Split(s, " ")
		wantOK := !slices.Contains(want, "")
		if !wantOK {
			want = nil
		}
		if got, ok := octet.Words(s); ok != wantOK || !slices.Equal(got, want) {
			t.Fatalf("Words(%q) = %q, %v", s, got, ok)
		}
	}
}

// P1.3

// wordOfByte says once more what a byte is in a Word.
func wordOfByte(c int) string {
	if c >= 33 && c <= 126 && c != '%' {
		return oneByte(c)
	}
	return fmt.Sprintf("%%%02X", c)
}

func TestWordOfEachByte(t *testing.T) {
	for c := range 256 {
		s, w := oneByte(c), wordOfByte(c)
		for _, row := range [][2]string{{s, w}, {"a" + s, "a" + w}, {s + "0", w + "0"}, {s + s, w + w}} {
			if got := octet.Word(row[0]); got != row[1] {
				t.Errorf("Word(%q) = %q, not %q", row[0], got, row[1])
			}
			if got, ok := octet.Unword(row[1]); !ok || got != row[0] {
				t.Errorf("Unword(%q) = %q, %v", row[1], got, ok)
			}
		}
	}
}

func TestWord(t *testing.T) {
	for s, w := range map[string]string{
		"":                    "%",
		"a b%":                "a%20b%25",
		"%":                   "%25",
		"%%":                  "%25%25",
		"%41":                 "%2541",
		" ":                   "%20",
		"!~":                  "!~",
		"\x1f !~\x7f\x80":     "%1F%20!~%7F%80",
		"\n\r\t\x00":          "%0A%0D%09%00",
		"\xab\xcd\xef\xff":    "%AB%CD%EF%FF",
		"\u00e4":              "%C3%A4",
		"k=1; Domain={d}":     "k=1;%20Domain={d}",
		"\\\"'<>&#?":          "\\\"'<>&#?",
		"a=b; Path=/; Secure": "a=b;%20Path=/;%20Secure",
	} {
		if got := octet.Word(s); got != w {
			t.Errorf("Word(%q) = %q, not %q", s, got, w)
		}
		if got, ok := octet.Unword(w); !ok || got != s {
			t.Errorf("Unword(%q) = %q, %v", w, got, ok)
		}
	}
}

func TestUnwordOfNoWord(t *testing.T) {
	for _, w := range []string{
		"", " ", "a b", "a ", "\t", "\n", "\x00", "\x1f", "\x7f", "\x80", "\xff", "\u00e4",
		"%%", "%%%", "a%", "%a", "%2", "a%2", "%20%", "%25%", "%%25", "%%20",
		"%0a", "%fF", "%Ff", "%2g", "%G0", "%0G", "%2 ", "% 2", "%:0", "%0:", "%/0", "%0/", "%@0", "%0@", "%-1", "%+1", "%0x",
		"%21", "%41", "%7E", "%24", "%26", "%30", "a%62c", "%u0020", "+ ",
	} {
		if got, ok := octet.Unword(w); ok || got != "" {
			t.Errorf("Unword(%q) = %q, %v", w, got, ok)
		}
	}
}

// All texts of at most two bytes, and all of three that begin with `%`: they
// are Words just where some text is told whose Word they are.
func TestUnwordIsTrueOfWordsAlone(t *testing.T) {
	words := map[string]string{"%": ""}
	for a := range 256 {
		words[wordOfByte(a)] = oneByte(a)
		for b := range 256 {
			if w := wordOfByte(a) + wordOfByte(b); len(w) == 2 {
				words[w] = oneByte(a) + oneByte(b)
			}
		}
	}
	check := func(w string) {
		want, wantOK := words[w]
		if got, ok := octet.Unword(w); ok != wantOK || got != want {
			t.Errorf("Unword(%q) = %q, %v", w, got, ok)
		}
	}
	check("")
	for a := range 256 {
		check(oneByte(a))
		for b := range 256 {
			check(oneByte(a) + oneByte(b))
			check("%" + oneByte(a) + oneByte(b))
		}
	}
}

func TestUnwordUndoesWord(t *testing.T) {
	for _, s := range texts(3) {
		w := octet.Word(s)
		if got, ok := octet.Unword(w); !ok || got != s {
			t.Fatalf("Unword(%q) = %q, %v", w, got, ok)
		}
		if l, ok := octet.Words(w); !ok || len(l) != 1 {
			t.Fatalf("the Word of %q is %q: no word of a line", s, w)
		}
		if u, ok := octet.Unword(s); ok && octet.Word(u) != s {
			t.Fatalf("Unword(%q) = %q, whose Word is %q", s, u, octet.Word(u))
		}
	}
}

// P1, P2

// answers writes down what all calls say of a text.
func answers(s string) string {
	number, isNumber := octet.Number(s)
	words, isWords := octet.Words(s)
	text, isWord := octet.Unword(s)
	return fmt.Sprintf("%q %v %q %v %d %v %q %q %q %v %q %q %v",
		octet.Lower(s), octet.Same(s, "aB"), octet.Trim(s), octet.Digits(s), number, isNumber,
		octet.Split(s, ','), octet.Lines(s), words, isWords, octet.Word(s), text, isWord)
}

func TestAnswersHangOnArgumentsAlone(t *testing.T) {
	all := texts(2)
	for _, s := range sample.Unsteady(all, answers) {
		t.Errorf("%q: two answers", s)
	}
}

func TestListsAreNewMemory(t *testing.T) {
	calls := map[string]func() []string{
		"Split": func() []string { return octet.Split("a b\n c", ' ') },
		"Lines": func() []string { return octet.Lines("a\r\nb\n") },
		"Words": func() []string { l, _ := octet.Words("a b c"); return l },
	}
	for name, call := range calls {
		want := slices.Clone(call())
		written := call()
		written = written[:cap(written)]
		for i := range written {
			written[i] = "written over"
		}
		if got := call(); !slices.Equal(got, want) {
			t.Errorf("%s: %q, not %q", name, got, want)
		}
	}
}

func TestLongTexts(t *testing.T) {
	const n = 1 << 20
	blanks, percents, breaks := strings.Repeat(" \t", n/2), strings.Repeat("%25", n), strings.Repeat("\r\n", n)
	if octet.Trim(blanks) != "" || octet.Lower(blanks) != blanks || !octet.Same(blanks, blanks) {
		t.Error("a long text of blanks")
	}
	if s, ok := octet.Unword(percents); !ok || len(s) != n || octet.Word(s) != percents {
		t.Error("a long Word")
	}
	if l := octet.Lines(breaks); len(l) != n || l[0] != "" || l[n-1] != "" {
		t.Error("many lines")
	}
	if l, ok := octet.Words(strings.Repeat("a ", n) + "a"); !ok || len(l) != n+1 {
		t.Error("many words")
	}
	if l, ok := octet.Words(strings.Repeat("a ", n)); ok || len(l) != 0 {
		t.Error("many words, the last one empty")
	}
}
