package addr_test

import (
	"fmt"
	"math/rand"
	"net/netip"
	"strings"
	"testing"

	"cracknel/addr"
	"cracknel/api"
	"cracknel/sample"
)

func isV4(t *testing.T, s string, want api.Addr) {
	t.Helper()
	if a, ok := addr.V4(s); !ok || a != want {
		t.Errorf("V4(%.60q) = %v, %v, not %v", s, a, ok, want)
	}
}

func isV6(t *testing.T, s string, groups [8]uint16) {
	t.Helper()
	if a, ok := addr.V6(s); !ok || a != addr.From(groups) {
		t.Errorf("V6(%.60q) = %v, %v, not %x", s, a, ok, groups)
	}
}

func notV4(t *testing.T, s string) {
	t.Helper()
	if a, ok := addr.V4(s); ok || a != (api.Addr{}) {
		t.Errorf("V4(%.60q) = %v, %v", s, a, ok)
	}
}

func notV6(t *testing.T, s string) {
	t.Helper()
	if a, ok := addr.V6(s); ok || a != (api.Addr{}) {
		t.Errorf("V6(%.60q) = %v, %v", s, a, ok)
	}
}

// P2.1

func TestV4(t *testing.T) {
	isV4(t, "0.0.0.0", api.Addr{})
	isV4(t, "255.255.255.255", api.Addr{12: 255, 13: 255, 14: 255, 15: 255})
	isV4(t, "192.0.2.1", api.Addr{12: 192, 14: 2, 15: 1})
	isV4(t, "1.2.3.4", api.Addr{12: 1, 13: 2, 14: 3, 15: 4})
	isV4(t, "0.0.0.255", api.Addr{15: 255})
	isV4(t, "255.0.0.0", api.Addr{12: 255})
	isV4(t, "10.100.99.199", api.Addr{12: 10, 13: 100, 14: 99, 15: 199})
}

func TestV4OfEachNumber(t *testing.T) {
	for place := range 4 {
		for n := range 1100 {
			pieces := []string{"1", "2", "3", "4"}
			pieces[place] = fmt.Sprint(n)
			s := strings.Join(pieces, ".")
			if n > 255 {
				notV4(t, s)
				continue
			}
			want := api.Addr{12: 1, 13: 2, 14: 3, 15: 4}
			want[12+place] = byte(n)
			isV4(t, s, want)
			if text := addr.Text4(want); text != s {
				t.Errorf("Text4(%v) = %q", want, text)
			}
		}
	}
}

func TestNoV4(t *testing.T) {
	for _, s := range []string{
		"", ".", "..", "...", "....", " ", "1", "1.2", "1.2.3", "1.2.3.4.5", "1.2.3.4.", ".1.2.3.4", "1.2.3.", ".1.2.3", "1..2.3", "1..2.3.4",
		"256.0.0.0", "0.256.0.0", "0.0.256.0", "0.0.0.256", "1.2.3.999", "1.2.3.512", "1.2.3.65537", "1.2.3.4294967296", "1.2.3.999999999999999999",
		"1.2.3.18446744073709551617", "1.2.3.1000000000000000000",
		"00.0.0.0", "0.0.0.00", "01.2.3.4", "1.02.3.4", "1.2.003.4", "1.2.3.04", "1.2.3.010",
		" 1.2.3.4", "1.2.3.4 ", "1. 2.3.4", "1.2.3.4\n", "1.2.3.4\t", "1.2.3.4\x00", "1 .2.3.4", "1.2.3 .4",
		"+1.2.3.4", "1.2.3.-4", "1.2.3.-0", "1.2.3.0x4", "1.2.3.a", "a.b.c.d", "1.2.3.4a", "1.2.3.1e1", "1.2.3.1_0", "1.2.3.٤",
		"1,2,3,4", "1:2:3:4", "1.2.3:4", "1.2.3。4", "::1.2.3.4", "::", "1.2.3.4/8", "[1.2.3.4]", "\xff", "1.2.3.\xff",
		strings.Repeat("1.", 1<<16), strings.Repeat("1", 1<<16), "1.2.3." + strings.Repeat("0", 1<<16),
	} {
		notV4(t, s)
	}
}

// The library tells the same addresses of four numbers.
func TestV4OfManyTexts(t *testing.T) {
	for _, s := range sample.Texts(7, ".", "0", "1", "25", "5") {
		a, err := netip.ParseAddr(s)
		if err != nil {
			notV4(t, s)
			continue
		}
		four := a.As4()
		isV4(t, s, api.Addr{12: four[0], 13: four[1], 14: four[2], 15: four[3]})
		if back := addr.Text4(api.Addr{12: four[0], 13: four[1], 14: four[2], 15: four[3]}); back != s {
			t.Errorf("Text4 of %q: %q", s, back)
		}
	}
}

func TestText4(t *testing.T) {
	for want, a := range map[string]api.Addr{
		"0.0.0.0":         {},
		"255.255.255.255": {12: 255, 13: 255, 14: 255, 15: 255},
		"192.0.2.1":       {12: 192, 14: 2, 15: 1},
		"9.10.99.100":     {12: 9, 13: 10, 14: 99, 15: 100},
		"1.2.3.4":         {0: 32, 1: 1, 10: 255, 11: 255, 12: 1, 13: 2, 14: 3, 15: 4},
		"0.0.0.1":         {0: 255, 11: 9, 15: 1},
	} {
		if got := addr.Text4(a); got != want {
			t.Errorf("Text4(%v) = %q, not %q", a, got, want)
		}
	}
}

// P2.2

func TestV6OfEightGroups(t *testing.T) {
	isV6(t, "1:2:3:4:5:6:7:8", [8]uint16{1, 2, 3, 4, 5, 6, 7, 8})
	isV6(t, "0:0:0:0:0:0:0:0", [8]uint16{})
	isV6(t, "0000:000:00:0:0000:000:00:0", [8]uint16{})
	isV6(t, "ffff:FFFF:fFfF:FfFf:ffff:ffff:ffff:ffff", [8]uint16{0xffff, 0xffff, 0xffff, 0xffff, 0xffff, 0xffff, 0xffff, 0xffff})
	isV6(t, "0123:4567:89ab:cdef:0123:4567:89AB:CDEF", [8]uint16{0x123, 0x4567, 0x89ab, 0xcdef, 0x123, 0x4567, 0x89ab, 0xcdef})
	isV6(t, "1:12:123:1234:a:ab:abc:abcd", [8]uint16{1, 0x12, 0x123, 0x1234, 0xa, 0xab, 0xabc, 0xabcd})
	isV6(t, "0001:0012:0123:1234:000A:00Ab:0aBC:ABcD", [8]uint16{1, 0x12, 0x123, 0x1234, 0xa, 0xab, 0xabc, 0xabcd})
	isV6(t, "2001:DB8:0:0:1:0:0:1", [8]uint16{0x2001, 0xdb8, 0, 0, 1, 0, 0, 1})
}

func TestV6WithNoughts(t *testing.T) {
	isV6(t, "::", [8]uint16{})
	isV6(t, "::1", [8]uint16{7: 1})
	isV6(t, "::0", [8]uint16{})
	isV6(t, "1::", [8]uint16{1})
	isV6(t, "0::", [8]uint16{})
	isV6(t, "1::2", [8]uint16{0: 1, 7: 2})
	isV6(t, "1:2::3", [8]uint16{0: 1, 1: 2, 7: 3})
	isV6(t, "1::2:3", [8]uint16{0: 1, 6: 2, 7: 3})
	isV6(t, "0:0::0:0", [8]uint16{})
	isV6(t, "2001:db8::1:0:0:1", [8]uint16{0x2001, 0xdb8, 0, 0, 1, 0, 0, 1})
	isV6(t, "Fe80::aB:0c", [8]uint16{0: 0xfe80, 6: 0xab, 7: 0xc})
	// For just one group that is 0.
	isV6(t, "::2:3:4:5:6:7:8", [8]uint16{0, 2, 3, 4, 5, 6, 7, 8})
	isV6(t, "1:2:3:4:5:6:7::", [8]uint16{1, 2, 3, 4, 5, 6, 7, 0})
	isV6(t, "1:2:3::5:6:7:8", [8]uint16{1, 2, 3, 0, 5, 6, 7, 8})
	isV6(t, "0:0:0:0:0:0:0::", [8]uint16{})
}

// Each count of groups ahead of `::`, and behind it.
func TestV6WithEachRowOfNoughts(t *testing.T) {
	written := strings.Split("1:22:333:4444:a:BB:cCc:dDdD:e", ":")
	groups := [9]uint16{1, 0x22, 0x333, 0x4444, 0xa, 0xbb, 0xccc, 0xdddd, 0xe}
	for ahead := range 10 {
		for behind := range 10 {
			s := strings.Join(written[:ahead], ":") + "::" + strings.Join(written[9-behind:], ":")
			if ahead+behind > 7 {
				notV6(t, s)
				continue
			}
			var want [8]uint16
			for i := range ahead {
				want[i] = groups[i]
			}
			for i := range behind {
				want[8-behind+i] = groups[9-behind+i]
			}
			isV6(t, s, want)
		}
		if ahead != 8 {
			notV6(t, strings.Join(written[:ahead], ":"))
		}
	}
}

func TestNoV6(t *testing.T) {
	for _, s := range []string{
		"", ":", ":::", "::::", ":::1", "1:::", "1:::2", "::1::", "1::2::3", "::::1", "::1:2::", "1::2::", "1::::2",
		"1", "1:", ":1", "1:2", "1:2:3:4:5:6:7", "1:2:3:4:5:6:7:", ":1:2:3:4:5:6:7", "1:2:3:4:5:6:7:8:", ":1:2:3:4:5:6:7:8", "1:2:3:4:5:6:7:8:9",
		"1:2:3:4:5:6:7:8::", "::1:2:3:4:5:6:7:8", "1:2:3:4::5:6:7:8", "1:2:3:4:5:6:7::8", "1::2:", ":1::2", "1::2:3:", ":1:2::3",
		"12345::", "::12345", "1:2:3:4:5:6:7:12345", "00000::", "::00001", "1:2:3:4:5:6:7:00008", "1::00000:2",
		"g::", "::g", "::G", "::1g", "::@", "::`", "::/", "::;", "::-1", "::+1", "::0x1", "::1_0", "::fffg", "1:2:3:4:5:6:7:x",
		" ", " ::", ":: ", "::1 ", " ::1", "1: :2", "1:: 2", ":: :", "::1\n", "::1\t", "::\x00", "1 :2:3:4:5:6:7:8",
		"::1.2.3.4", "::ffff:192.0.2.1", "1.2.3.4", "[::1]", "[::]", "::1%1", "::1%eth0", "::/0", "::٤", "::\xff", "::１", "∷",
		strings.Repeat("1:", 1<<16), strings.Repeat(":", 1<<16), strings.Repeat("f", 1<<16), "::" + strings.Repeat("0", 1<<16), "::" + strings.Repeat("1:", 1<<16) + "1",
	} {
		notV6(t, s)
	}
}

// No byte but digits, letters a to f and A to F counts.
func TestV6OfEachByte(t *testing.T) {
	for c := range 256 {
		digit := string([]byte{byte(c)})
		if at := strings.Index("0123456789abcdef", strings.ToLower(digit)); at >= 0 && c < 128 {
			isV6(t, digit+"::", [8]uint16{uint16(at)})
			isV6(t, "::1"+digit+"2", [8]uint16{7: 0x102 | uint16(at)<<4})
			isV6(t, "1:2:3:"+digit+digit+"01:5:6:7:8", [8]uint16{1, 2, 3, uint16(at)*0x1100 + 1, 5, 6, 7, 8})
			continue
		}
		notV6(t, digit+"::")
		notV6(t, "1:2:3:4"+digit+digit+":5:6:7:8")
		if c != ':' {
			notV6(t, digit)
			notV6(t, "::1"+digit+"2")
			notV6(t, "1"+digit+"::")
		}
	}
}

// The library tells the same addresses of eight groups, where no points are
// in the text, and no zone.
func TestV6OfManyTexts(t *testing.T) {
	all := sample.Texts(9, ":", "0", "a1")
	all = append(all, sample.Texts(7, "::", "00", "F:", ":1", "12g")...)
	for _, s := range sample.Texts(6, ":1", ":0", "::", ":") {
		all = append(all, "1:2"+s, "1:2:0:4"+s, "0:0"+s)
	}
	for _, s := range all {
		a, err := netip.ParseAddr(s)
		if err != nil {
			notV6(t, s)
			continue
		}
		if got, ok := addr.V6(s); !ok || got != api.Addr(a.As16()) {
			t.Errorf("V6(%q) = %v, %v", s, got, ok)
		}
	}
}

// P2.3

func TestText6(t *testing.T) {
	for want, g := range map[string][8]uint16{
		"::":                      {},
		"::1":                     {7: 1},
		"1::":                     {0: 1},
		"1:2:3:4:5:6:7:8":         {1, 2, 3, 4, 5, 6, 7, 8},
		"2001:db8::1:0:0:1":       {0x2001, 0xdb8, 0, 0, 1, 0, 0, 1},
		"1:0:0:2::3":              {1, 0, 0, 2, 0, 0, 0, 3},
		"1::2:0:0:3":              {1, 0, 0, 0, 2, 0, 0, 3},
		"::1:0:0:0:2":             {0, 0, 0, 1, 0, 0, 0, 2},
		"::1:2:0:0:3:4":           {0, 0, 1, 2, 0, 0, 3, 4},
		"0:0:1::":                 {2: 1},
		"::1:0:0":                 {5: 1},
		"1:2:3:4:5:6::":           {1, 2, 3, 4, 5, 6},
		"::3:4:5:6:7:8":           {0, 0, 3, 4, 5, 6, 7, 8},
		"1:2:3::6:7:8":            {1, 2, 3, 0, 0, 6, 7, 8},
		"0:2:3:4:5:6:7:8":         {0, 2, 3, 4, 5, 6, 7, 8},
		"1:2:3:0:5:6:7:8":         {1, 2, 3, 0, 5, 6, 7, 8},
		"1:2:3:4:5:6:7:0":         {1, 2, 3, 4, 5, 6, 7, 0},
		"0:1:0:1:0:1:0:1":         {0, 1, 0, 1, 0, 1, 0, 1},
		"0:1::1:0:1":              {0, 1, 0, 0, 0, 1, 0, 1},
		"a:ab:abc:abcd::":         {0xa, 0xab, 0xabc, 0xabcd},
		"ffff::f000:f00:f0:f":     {0xffff, 0, 0, 0, 0xf000, 0xf00, 0xf0, 0xf},
		"::c000:2ff":              {6: 0xc000, 7: 0x2ff},
		"::ffff:c000:201":         {5: 0xffff, 6: 0xc000, 7: 0x201},
		"1000:100:10:1::1:0":      {0x1000, 0x100, 0x10, 1, 0, 0, 1, 0},
		"fedc:ba98:7654:3210:1::": {0xfedc, 0xba98, 0x7654, 0x3210, 1},
	} {
		if got := addr.Text6(addr.From(g)); got != want {
			t.Errorf("Text6 of %x = %q, not %q", g, got, want)
		}
	}
}

// text6 writes once more what the chapter says, row by row.
func text6(g [8]uint16) string {
	for long := 8; long >= 2; long-- {
		for from := 0; from+long <= 8; from++ {
			if zeros(g[from : from+long]) {
				return hex(g[:from]) + "::" + hex(g[from+long:])
			}
		}
	}
	return hex(g[:])
}

func zeros(g []uint16) bool {
	for _, x := range g {
		if x != 0 {
			return false
		}
	}
	return true
}

func hex(g []uint16) string {
	var pieces []string
	for _, x := range g {
		pieces = append(pieces, fmt.Sprintf("%x", x))
	}
	return strings.Join(pieces, ":")
}

// All places of groups that are 0; and what is written is read again.
func TestText6OfAllRowsOfNoughts(t *testing.T) {
	for mask := range 256 {
		for _, one := range []uint16{1, 0x10, 0xabc, 0xff00, 0xffff} {
			var g [8]uint16
			for i := range 8 {
				if mask>>i&1 == 1 {
					g[i] = one + uint16(i)*uint16(mask)*0x1001
				}
			}
			got := addr.Text6(addr.From(g))
			if got != text6(g) {
				t.Errorf("Text6 of %x = %q, not %q", g, got, text6(g))
			}
			isV6(t, got, g)
			isV6(t, strings.ToUpper(got), g)
			isV6(t, hex(g[:]), g)
		}
	}
}

func TestGroupsAndFrom(t *testing.T) {
	a := api.Addr{1, 2, 3, 4, 0, 255, 255, 0, 128, 127, 0, 0, 192, 0, 2, 1}
	g := [8]uint16{0x102, 0x304, 0xff, 0xff00, 0x807f, 0, 0xc000, 0x201}
	if got := addr.Groups(a); got != g {
		t.Errorf("Groups(%v) = %x", a, got)
	}
	if got := addr.From(g); got != a {
		t.Errorf("From(%x) = %v", g, got)
	}
}

func TestGroupsOfEachByte(t *testing.T) {
	for at := range 16 {
		for c := range 256 {
			var a api.Addr
			a[at] = byte(c)
			var g [8]uint16
			g[at/2] = uint16(c)
			if at%2 == 0 {
				g[at/2] = uint16(c * 256)
			}
			if got := addr.Groups(a); got != g {
				t.Errorf("Groups(%v) = %x", a, got)
			}
			if got := addr.From(g); got != a {
				t.Errorf("From(%x) = %v", g, got)
			}
		}
	}
}

func TestAddressesGoRound(t *testing.T) {
	random := rand.New(rand.NewSource(2))
	for range 20000 {
		var a api.Addr
		for i := range 16 {
			if random.Intn(2) == 0 {
				a[i] = byte(random.Intn(256))
			}
		}
		if addr.From(addr.Groups(a)) != a {
			t.Errorf("From(Groups(%v)) = %v", a, addr.From(addr.Groups(a)))
		}
		if want := text6(addr.Groups(a)); addr.Text6(a) != want {
			t.Errorf("Text6(%v) = %q, not %q", a, addr.Text6(a), want)
		}
		isV6(t, addr.Text6(a), addr.Groups(a))
		isV4(t, addr.Text4(a), api.Addr{12: a[12], 13: a[13], 14: a[14], 15: a[15]})
	}
}

// P1, P2

// answers writes down what all calls say of a text, and of what it is read as.
func answers(s string) string {
	four, isFour := addr.V4(s)
	six, isSix := addr.V6(s)
	return fmt.Sprint(four, isFour, six, isSix, addr.Text4(six), addr.Text6(four), addr.Text6(six), addr.Groups(six), addr.From(addr.Groups(four)))
}

func TestAnswersHangOnArgumentsAlone(t *testing.T) {
	all := sample.Texts(5, ":", "::", ".", "1", "0a", "255", "\xff")
	for _, s := range sample.Unsteady(all, answers) {
		t.Errorf("%q: two answers", s)
	}
}
