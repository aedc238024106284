package shelf_test

import (
	"fmt"
	"math"
	"math/rand/v2"
	"slices"
	"strconv"
	"strings"
	"testing"

	"cracknel/api"
	"cracknel/host"
	"cracknel/match"
	"cracknel/sample"
	"cracknel/shelf"
)

func named(name string) api.Host {
	return api.Host{Kind: api.HostName, Name: name}
}

// read: the host that a text is.
func read(t *testing.T, s string) api.Host {
	t.Helper()
	h, e := host.Parse(s)
	if e != api.OK {
		t.Fatalf("%q is no host", s)
	}
	return h
}

// cookie: one of this name, that was made and used at these moments.
func cookie(name string, born, used int64) api.Cookie {
	return api.Cookie{Name: name, Value: "v", Host: named("a.com"), Path: "/", Expires: 100, Born: born, Used: used}
}

// shown: the beginning of what a value says.
func shown(x any) string { return fmt.Sprintf("%.400q", fmt.Sprintf("%+v", x)) }

func isPut(t *testing.T, s *shelf.Shelf, c api.Cookie, site string, want bool) {
	t.Helper()
	if got := s.Put(c, site); got != want {
		t.Errorf("Put(%s, %.100q) = %v", shown(c), site, got)
	}
}

// is: is this the cookie in its place?
func is(t *testing.T, s *shelf.Shelf, want api.Cookie) {
	t.Helper()
	if c, ok := s.Get(want); c != want || !ok {
		t.Errorf("Get = %s, %v, not %s", shown(c), ok, shown(want))
	}
}

func isNotThere(t *testing.T, s *shelf.Shelf, c api.Cookie) {
	t.Helper()
	if got, ok := s.Get(c); got != (api.Cookie{}) || ok {
		t.Errorf("Get(%s) = %s, %v", shown(c), shown(got), ok)
	}
}

func isDropped(t *testing.T, s *shelf.Shelf, c api.Cookie, want bool) {
	t.Helper()
	if got := s.Drop(c); got != want {
		t.Errorf("Drop(%s) = %v", shown(c), got)
	}
}

func isUsed(t *testing.T, s *shelf.Shelf, c api.Cookie, now int64, want bool) {
	t.Helper()
	if got := s.Use(c, now); got != want {
		t.Errorf("Use(%s, %d) = %v", shown(c), now, got)
	}
}

func isExpired(t *testing.T, s *shelf.Shelf, now int64, want int) {
	t.Helper()
	if got := s.Expire(now); got != want {
		t.Errorf("Expire(%d) = %d, not %d", now, got, want)
	}
}

func isCount(t *testing.T, s *shelf.Shelf, site string, want int) {
	t.Helper()
	if got := s.Count(site); got != want {
		t.Errorf("Count(%.100q) = %d, not %d", site, got, want)
	}
}

// isAll: are these all cookies of a shelf, in this order?
func isAll(t *testing.T, s *shelf.Shelf, want ...api.Cookie) {
	t.Helper()
	if got := s.All(); !slices.Equal(got, want) {
		t.Errorf("All = %s, not %s", shown(got), shown(want))
	}
	if got := s.Len(); got != len(want) {
		t.Errorf("Len = %d, not %d", got, len(want))
	}
}

// isOldest: has the site's oldest cookie this name, or is there none, if the
// name is empty?
func isOldest(t *testing.T, s *shelf.Shelf, site, want string) {
	t.Helper()
	c, ok := s.Oldest(site)
	isFound(t, s, c, ok, want)
}

func isOldestOfAll(t *testing.T, s *shelf.Shelf, want string) {
	t.Helper()
	c, ok := s.OldestOfAll()
	isFound(t, s, c, ok, want)
}

func isFound(t *testing.T, s *shelf.Shelf, c api.Cookie, ok bool, want string) {
	t.Helper()
	if c.Name != want || ok != (want != "") {
		t.Errorf("the oldest one is %s, %v, not %q", shown(c), ok, want)
	}
	if !ok && c != (api.Cookie{}) {
		t.Errorf("%s, of none", shown(c))
	}
	if ok {
		is(t, s, c)
	}
}

// isEmpty: has a shelf no cookie, whatever it is asked?
func isEmpty(t *testing.T, s *shelf.Shelf) {
	t.Helper()
	isAll(t, s)
	isOldestOfAll(t, s, "")
	for _, site := range []string{"", "x", "a.com"} {
		isCount(t, s, site, 0)
		isOldest(t, s, site, "")
	}
	for _, c := range []api.Cookie{{}, cookie("a", 0, 0), cookie("", 0, 0)} {
		isNotThere(t, s, c)
		isDropped(t, s, c, false)
		isUsed(t, s, c, 5, false)
		isNotThere(t, s, c)
	}
	for _, now := range []int64{0, -1, 5, math.MaxInt64, math.MinInt64} {
		isExpired(t, s, now, 0)
	}
}

// numbered: a cookie with the number that it has on the shelf.
func numbered(c api.Cookie, seq int) api.Cookie {
	c.Seq = seq
	return c
}

// wrong: cookies that none takes, but that are values of the type.
func wrong() []api.Cookie {
	all := []api.Cookie{
		{}, {Name: "\xff"}, {Value: "\x00"}, {Path: "a b"}, {Path: "?"}, {Only: true}, {Same: -5}, {Same: math.MaxInt},
		{Name: "a=b; c", Path: "\n"}, {Expires: math.MinInt64}, {Expires: api.Never}, {Born: math.MinInt64, Used: math.MaxInt64}, {Seq: math.MinInt}, {Seq: math.MaxInt},
	}
	for _, h := range sample.WrongHosts() {
		all = append(all, api.Cookie{Name: "a", Host: h, Path: "/"}, api.Cookie{Name: "a", Host: h, Only: true, Path: "/"})
	}
	return all
}

// P11.1

func TestNew(t *testing.T) {
	s := shelf.New()
	isEmpty(t, s)
	// None of the questions has given a number.
	isPut(t, s, cookie("a", 1, 1), "x", false)
	is(t, s, numbered(cookie("a", 1, 1), 1))
}

func TestShelvesAreTheirOwn(t *testing.T) {
	a, b := shelf.New(), shelf.New()
	isPut(t, a, cookie("a", 1, 1), "x", false)
	isPut(t, a, cookie("b", 1, 1), "x", false)
	isEmpty(t, b)
	isPut(t, b, cookie("b", 2, 2), "x", false)
	isAll(t, b, numbered(cookie("b", 2, 2), 1))
	isDropped(t, b, cookie("b", 2, 2), true)
	isAll(t, a, numbered(cookie("a", 1, 1), 1), numbered(cookie("b", 1, 1), 2))
	isEmpty(t, shelf.New())
}

// The first cookie has the number 1, whatever its own one is.
func TestPut(t *testing.T) {
	s := shelf.New()
	var want []api.Cookie
	for i, seq := range []int{0, 1, 1, 2, 9, -1, math.MaxInt, math.MinInt, 3} {
		c := api.Cookie{
			Name: "n" + strconv.Itoa(i), Value: "v" + strconv.Itoa(i), Host: read(t, "a.com"), Only: i%2 == 0, Path: "/p",
			Secure: i%3 == 0, HttpOnly: i%4 == 0, Same: i % 4, Expires: int64(50 + i), Born: int64(70 - i), Used: int64(60 + i), Seq: seq,
		}
		isPut(t, s, c, "x", false)
		want = append(want, numbered(c, i+1))
		is(t, s, want[i])
		isAll(t, s, want...)
		isCount(t, s, "x", i+1)
	}
}

func TestPutWhereThereIsOne(t *testing.T) {
	s := shelf.New()
	first := api.Cookie{Name: "a", Value: "1", Host: read(t, "a.com"), Path: "/", Secure: true, Same: api.SameLax, Expires: 10, Born: 5, Used: 6}
	other := cookie("b", 3, 3)
	isPut(t, s, first, "x", false)
	isPut(t, s, other, "x", false)
	second := api.Cookie{Name: "a", Value: "2", Host: read(t, "a.com"), Path: "/", HttpOnly: true, Same: api.SameStrict, Expires: 20, Born: 8, Used: 9, Seq: 77}
	isPut(t, s, second, "x", true)
	want := second
	want.Born, want.Seq = 5, 1
	is(t, s, want)
	isAll(t, s, want, numbered(other, 2))
	isCount(t, s, "x", 2)
	// What stands there again has given no number.
	isPut(t, s, cookie("c", 7, 7), "x", false)
	is(t, s, numbered(cookie("c", 7, 7), 3))
}

// However often a place is taken, the Born is the first one's.
func TestPutAgainAndAgain(t *testing.T) {
	s := shelf.New()
	isPut(t, s, cookie("z", 1, 1), "x", false)
	for i, born := range []int64{50, 60, 40, 0, -1, math.MaxInt64, math.MinInt64, 50} {
		isPut(t, s, cookie("a", born, int64(i)), "x", i > 0)
		is(t, s, numbered(cookie("a", 50, int64(i)), 2))
	}
	isAll(t, s, numbered(cookie("z", 1, 1), 1), numbered(cookie("a", 50, 7), 2))
	// A Born of 0 is kept, too.
	isPut(t, s, cookie("b", 0, 0), "x", false)
	isPut(t, s, cookie("b", 9, 9), "x", true)
	is(t, s, numbered(cookie("b", 0, 9), 3))
}

func TestPutToAnotherSite(t *testing.T) {
	s := shelf.New()
	isPut(t, s, cookie("a", 1, 1), "x", false)
	isPut(t, s, cookie("b", 2, 2), "x", false)
	for _, site := range []string{"y", "", "x", "X", "x "} {
		isPut(t, s, cookie("a", 9, 1), site, true)
		is(t, s, numbered(cookie("a", 1, 1), 1))
		for _, one := range []string{"y", "", "x", "X", "x "} {
			want := 0
			if one == site {
				want++
			}
			if one == "x" {
				want++
			}
			isCount(t, s, one, want)
		}
		isOldest(t, s, site, "a")
		if site != "x" {
			isOldest(t, s, "x", "b")
		}
	}
}

// What went is forgotten: one behind it in its place has a new number, and its
// own Born.
func TestPutWhereOneWent(t *testing.T) {
	s := shelf.New()
	isPut(t, s, cookie("a", 1, 1), "x", false)
	isPut(t, s, cookie("b", 1, 1), "x", false)
	isDropped(t, s, cookie("a", 0, 0), true)
	isPut(t, s, cookie("a", 7, 7), "y", false)
	isAll(t, s, numbered(cookie("b", 1, 1), 2), numbered(cookie("a", 7, 7), 3))
	isCount(t, s, "x", 1)
	isCount(t, s, "y", 1)
	isExpired(t, s, 100, 2)
	isEmpty(t, s)
	isPut(t, s, cookie("b", 8, 8), "x", false)
	isAll(t, s, numbered(cookie("b", 8, 8), 4))
}

// otherPlaces: a cookie named a, of a.com and /p, changed so that each stands
// in a place of its own.
func otherPlaces(c api.Cookie) []api.Cookie {
	var all []api.Cookie
	for _, change := range []func(c *api.Cookie){
		func(c *api.Cookie) { c.Name = "" },
		func(c *api.Cookie) { c.Name = "A" },
		func(c *api.Cookie) { c.Name = "a " },
		func(c *api.Cookie) { c.Name = "aa" },
		func(c *api.Cookie) { c.Host.Name = "b.a.com" },
		func(c *api.Cookie) { c.Host.Name = "com" },
		func(c *api.Cookie) { c.Host.Name = "A.com" },
		func(c *api.Cookie) { c.Host.Kind = api.HostV4 },
		func(c *api.Cookie) { c.Host.Kind = -1 },
		func(c *api.Cookie) { c.Host.Addr[15] = 1 },
		func(c *api.Cookie) { c.Host.Addr[0] = 1 },
		func(c *api.Cookie) { c.Host = api.Host{} },
		func(c *api.Cookie) { c.Host = api.Host{Kind: api.HostV4, Addr: api.Addr{12: 1, 13: 2, 14: 3, 15: 4}} },
		func(c *api.Cookie) { c.Host = api.Host{Kind: api.HostV6, Addr: api.Addr{12: 1, 13: 2, 14: 3, 15: 4}} },
		func(c *api.Cookie) { c.Only = true },
		func(c *api.Cookie) { c.Path = "/" },
		func(c *api.Cookie) { c.Path = "/p/" },
		func(c *api.Cookie) { c.Path = "/P" },
		func(c *api.Cookie) { c.Path = "/p/q" },
		func(c *api.Cookie) { c.Path = "" },
		// Together they have the same bytes.
		func(c *api.Cookie) { c.Name, c.Path = "a/", "p" },
		func(c *api.Cookie) { c.Name, c.Path = "a/p", "" },
		func(c *api.Cookie) { c.Name, c.Path = "/p", "a" },
		func(c *api.Cookie) { c.Name, c.Host.Name = "aa", ".com" },
		func(c *api.Cookie) { c.Host.Name, c.Path = "a.com/", "p" },
	} {
		b := c
		change(&b)
		all = append(all, b)
	}
	return all
}

func TestPlaces(t *testing.T) {
	s := shelf.New()
	a := api.Cookie{Name: "a", Value: "b", Host: read(t, "a.com"), Path: "/p", Expires: 10}
	want := []api.Cookie{numbered(a, 1)}
	isPut(t, s, a, "x", false)
	for i, b := range otherPlaces(a) {
		isNotThere(t, s, b)
		isDropped(t, s, b, false)
		isUsed(t, s, b, 5, false)
		isPut(t, s, b, "x", false)
		want = append(want, numbered(b, i+2))
		isAll(t, s, want...)
	}
	for _, c := range want {
		is(t, s, c)
		isUsed(t, s, c, 7, true)
		isDropped(t, s, c, true)
		isNotThere(t, s, c)
	}
	isEmpty(t, s)
}

// samePlace: a cookie changed in what isn't its place.
func samePlace(c api.Cookie) []api.Cookie {
	var all []api.Cookie
	for _, change := range []func(c *api.Cookie){
		func(c *api.Cookie) {},
		func(c *api.Cookie) { c.Value = "c" },
		func(c *api.Cookie) { c.Secure = !c.Secure },
		func(c *api.Cookie) { c.HttpOnly = !c.HttpOnly },
		func(c *api.Cookie) { c.Same = api.SameStrict },
		func(c *api.Cookie) { c.Same = -5 },
		func(c *api.Cookie) { c.Expires = api.Never },
		func(c *api.Cookie) { c.Expires = math.MinInt64 },
		func(c *api.Cookie) { c.Born = 7 },
		func(c *api.Cookie) { c.Used = 7 },
		func(c *api.Cookie) { c.Seq = 7 },
		func(c *api.Cookie) { *c = api.Cookie{Name: c.Name, Host: c.Host, Only: c.Only, Path: c.Path} },
	} {
		b := c
		change(&b)
		all = append(all, b)
	}
	return all
}

func TestOnePlaceWhateverElseACookieHas(t *testing.T) {
	for _, a := range append(wrong(), cookie("a", 1, 1), api.Cookie{Name: "a", Host: read(t, "[::1]"), Only: true, Path: "/p", Born: 3}) {
		for _, b := range samePlace(a) {
			s := shelf.New()
			isPut(t, s, a, "x", false)
			if c, ok := s.Get(b); c != numbered(a, 1) || !ok {
				t.Errorf("%s of %s", shown(c), shown(b))
			}
			isUsed(t, s, b, 40, true)
			isPut(t, s, b, "x", true)
			b.Born = a.Born
			isAll(t, s, numbered(b, 1))
			isDropped(t, s, a, true)
			isEmpty(t, s)
		}
	}
}

func TestExamples(t *testing.T) {
	s := shelf.New()
	s.Put(api.Cookie{Name: "a", Value: "1"}, "x")
	s.Put(api.Cookie{Name: "a", Value: "2"}, "x")
	isAll(t, s, api.Cookie{Name: "a", Value: "2", Seq: 1})
}

// P11.2

// three: a shelf with a, b and c, of the sites x, y and x, that end at 10, 20
// and 30.
func three(t *testing.T) (*shelf.Shelf, []api.Cookie) {
	s := shelf.New()
	var all []api.Cookie
	for i, name := range []string{"a", "b", "c"} {
		c := cookie(name, int64(i), int64(5-i))
		c.Expires = int64(10 * (i + 1))
		isPut(t, s, c, []string{"x", "y", "x"}[i], false)
		all = append(all, numbered(c, i+1))
	}
	isAll(t, s, all...)
	return s, all
}

func TestGetChangesNothing(t *testing.T) {
	s, all := three(t)
	for range 3 {
		for _, c := range all {
			is(t, s, c)
		}
		isNotThere(t, s, cookie("d", 0, 0))
		isNotThere(t, s, cookie("", 0, 0))
		isNotThere(t, s, api.Cookie{})
		isNotThere(t, s, api.Cookie{Name: "a"})
		isAll(t, s, all...)
	}
}

// A zero cookie has a place, too; one of it is told by the true beside it.
func TestGetOfAZeroCookie(t *testing.T) {
	s := shelf.New()
	isPut(t, s, api.Cookie{}, "", false)
	isAll(t, s, api.Cookie{Seq: 1})
	is(t, s, api.Cookie{Seq: 1})
	isCount(t, s, "", 1)
	if c, ok := s.Oldest(""); c != (api.Cookie{Seq: 1}) || !ok {
		t.Errorf("Oldest = %s, %v", shown(c), ok)
	}
	isDropped(t, s, api.Cookie{}, true)
	isEmpty(t, s)
}

func TestDrop(t *testing.T) {
	for i := range 3 {
		s, all := three(t)
		isDropped(t, s, all[i], true)
		isNotThere(t, s, all[i])
		isDropped(t, s, all[i], false)
		isAll(t, s, slices.Delete(slices.Clone(all), i, i+1)...)
		isCount(t, s, "x", []int{1, 2, 1}[i])
		isCount(t, s, "y", []int{1, 0, 1}[i])
	}
}

func TestDropOfNone(t *testing.T) {
	s, all := three(t)
	for _, c := range append(otherPlaces(all[0]), wrong()...) {
		if !slices.ContainsFunc(all, func(a api.Cookie) bool { return match.Key(a, c) }) {
			isDropped(t, s, c, false)
		}
	}
	isAll(t, s, all...)
	isPut(t, s, cookie("d", 1, 1), "x", false)
	is(t, s, numbered(cookie("d", 1, 1), 4))
}

func TestUse(t *testing.T) {
	s, all := three(t)
	// Times may go back, and be none.
	for _, now := range []int64{9, 9, 3, 0, -1, math.MaxInt64, math.MinInt64, 1 << 40, 12} {
		for i := range all {
			isUsed(t, s, all[i], now, true)
			all[i].Used = now
			is(t, s, all[i])
			isAll(t, s, all...)
		}
	}
	isCount(t, s, "x", 2)
	isCount(t, s, "y", 1)
	isOldest(t, s, "y", "b")
}

func TestUseOfNone(t *testing.T) {
	s, all := three(t)
	for _, c := range append(otherPlaces(all[0]), wrong()...) {
		if !slices.ContainsFunc(all, func(a api.Cookie) bool { return match.Key(a, c) }) {
			isUsed(t, s, c, 9, false)
			isNotThere(t, s, c)
		}
	}
	isAll(t, s, all...)
	isDropped(t, s, all[1], true)
	isUsed(t, s, all[1], 9, false)
	isAll(t, s, all[0], all[2])
	isCount(t, s, "y", 0)
	// Use gives no number.
	isPut(t, s, all[1], "y", false)
	isAll(t, s, all[0], all[2], numbered(all[1], 4))
}

func TestExpire(t *testing.T) {
	for _, one := range []struct {
		now  int64
		want int
	}{
		{9, 0}, {10, 1}, {11, 1}, {19, 1}, {20, 2}, {21, 2}, {29, 2}, {30, 3}, {31, 3},
		{0, 0}, {-1, 0}, {-10, 0}, {math.MinInt64, 0}, {1 << 40, 3}, {1<<32 + 10, 3}, {-1 << 32, 0}, {api.Never, 3},
	} {
		s, all := three(t)
		isExpired(t, s, one.now, one.want)
		isAll(t, s, all[one.want:]...)
		for _, c := range all[:one.want] {
			isNotThere(t, s, c)
		}
		// They went already.
		isExpired(t, s, one.now, 0)
		isCount(t, s, "x", []int{2, 1, 1, 0}[one.want])
		isCount(t, s, "y", []int{1, 1, 0, 0}[one.want])
		isPut(t, s, cookie("d", 1, 1), "x", false)
		is(t, s, numbered(cookie("d", 1, 1), 4))
	}
}

func TestExpireOneByOne(t *testing.T) {
	s, all := three(t)
	for now := range int64(40) {
		want := 0
		if now > 0 && now < 31 && now%10 == 0 {
			want = 1
		}
		isExpired(t, s, now, want)
		isAll(t, s, all[min(now/10, 3):]...)
	}
	isEmpty(t, s)
}

func TestExpireAtTheEndsOfTime(t *testing.T) {
	s := shelf.New()
	ends := []int64{math.MinInt64, math.MinInt64 + 1, -1, 0, 1, 1 << 40, api.Never - 1, api.Never}
	for i, end := range ends {
		c := cookie(strconv.Itoa(i), 0, 0)
		c.Expires = end
		isPut(t, s, c, "x", false)
	}
	for i, end := range ends {
		if i > 0 && ends[i-1] < end-1 {
			isExpired(t, s, end-1, 0)
		}
		isExpired(t, s, end, 1)
		isCount(t, s, "x", len(ends)-i-1)
	}
	isEmpty(t, s)
}

// A cookie ends when the one says that stands in the place now; nothing but
// Expire looks at it.
func TestExpireOfOneThatWasPutAgain(t *testing.T) {
	s, all := three(t)
	later := all[0]
	later.Expires = 50
	isPut(t, s, later, "x", true)
	sooner := all[2]
	sooner.Expires = -5
	isPut(t, s, sooner, "x", true)
	isAll(t, s, later, all[1], sooner)
	isUsed(t, s, sooner, 99, true)
	isExpired(t, s, 49, 2)
	isAll(t, s, later)
	isExpired(t, s, 50, 1)
}

func TestAllByNumbers(t *testing.T) {
	s := shelf.New()
	var want []api.Cookie
	const many = 200
	for i := range many {
		// Nothing else of them rises with their numbers.
		c := cookie(strconv.Itoa(i*7919%1000), int64(i*31%17), int64(i*37%19))
		c.Path = "/" + strings.Repeat("p", i*41%23)
		c.Expires = int64(i * 43 % 29)
		isPut(t, s, c, strconv.Itoa(i%3), false)
		want = append(want, numbered(c, i+1))
	}
	isAll(t, s, want...)
	for i := range many {
		if i%3 == 1 {
			isDropped(t, s, want[i], true)
		}
	}
	// Behind a Drop, and where one was put again, numbers rise on.
	for i := range many {
		switch {
		case i%6 == 1:
			isPut(t, s, want[i], "x", false)
			want = append(want, numbered(want[i], len(want)+1))
		case i%5 == 0 && i%3 != 1:
			want[i].Value = "again"
			isPut(t, s, want[i], "x", true)
		}
	}
	kept := want[:0:0]
	for i, c := range want {
		if i >= many || i%3 != 1 {
			kept = append(kept, c)
		}
	}
	isAll(t, s, kept...)
}

func TestAllIsNewMemory(t *testing.T) {
	s, all := three(t)
	a, b := s.All(), s.All()
	for _, list := range [][]api.Cookie{a[:cap(a)], b[:cap(b)]} {
		for i := range list {
			list[i] = api.Cookie{Name: "written over", Seq: 99}
		}
		isAll(t, s, all...)
	}
	a, b = s.All(), s.All()
	_ = append(a[:1], api.Cookie{Name: "behind"})
	if !slices.Equal(b, all) {
		t.Errorf("%s", shown(b))
	}
	// Nor does an answer change behind its call.
	b = s.All()
	isUsed(t, s, all[0], 77, true)
	isDropped(t, s, all[1], true)
	isPut(t, s, cookie("d", 1, 1), "x", false)
	if !slices.Equal(b, all) {
		t.Errorf("%s", shown(b))
	}
}

func TestLen(t *testing.T) {
	s := shelf.New()
	isLen := func(want int) {
		t.Helper()
		if got := s.Len(); got != want {
			t.Errorf("Len = %d, not %d", got, want)
		}
	}
	isLen(0)
	for i := range 10 {
		isPut(t, s, cookie(strconv.Itoa(i), 1, 1), strconv.Itoa(i%2), false)
		isLen(i + 1)
		isPut(t, s, cookie(strconv.Itoa(i), 2, 2), strconv.Itoa(i%3), true)
		isLen(i + 1)
	}
	isUsed(t, s, cookie("3", 0, 0), 9, true)
	isDropped(t, s, cookie("x", 0, 0), false)
	isLen(10)
	isDropped(t, s, cookie("3", 0, 0), true)
	isLen(9)
	isExpired(t, s, 99, 0)
	isLen(9)
	isExpired(t, s, 100, 9)
	isLen(0)
}

// Sites are texts, byte for byte, and not the hosts of their cookies.
func TestCount(t *testing.T) {
	s := shelf.New()
	sites := []string{"", "x", "X", "x ", " x", "xx", ".x", "a.com", "b.a.com", "com", "\x00", "\xff", "\u00e4", "[::1]", "1.2.3.4", strings.Repeat("x", 1<<16)}
	for i, site := range sites {
		for k := range i + 1 {
			isPut(t, s, cookie(strconv.Itoa(i)+"-"+strconv.Itoa(k), 1, 1), site, false)
		}
	}
	for i, site := range sites {
		isCount(t, s, site, i+1)
		isOldest(t, s, site, strconv.Itoa(i)+"-0")
	}
	for _, site := range []string{"y", "A.com", "a.co", "a.com.", "xxx", "0", "\x00\x00", "\u00c4"} {
		isCount(t, s, site, 0)
		isOldest(t, s, site, "")
	}
	for i, site := range sites {
		for k := range i + 1 {
			isDropped(t, s, cookie(strconv.Itoa(i)+"-"+strconv.Itoa(k), 1, 1), true)
			isCount(t, s, site, i-k)
		}
		isOldest(t, s, site, "")
	}
	isEmpty(t, s)
}

// P11.3

// used: a shelf with cookies of these moments of Used, named by their numbers,
// of the sites x and y by turns.
func used(t *testing.T, moments ...int64) *shelf.Shelf {
	s := shelf.New()
	for i, moment := range moments {
		c := cookie(strconv.Itoa(i+1), int64(-i), moment)
		c.Path = "/" + strings.Repeat("p", len(moments)-i)
		isPut(t, s, c, []string{"x", "y"}[i%2], false)
	}
	return s
}

func TestOldest(t *testing.T) {
	const least, most = math.MinInt64, math.MaxInt64
	for _, one := range []struct {
		moments []int64
		x, y, z string
	}{
		{[]int64{5}, "1", "", "1"},
		{[]int64{0}, "1", "", "1"},
		{[]int64{most}, "1", "", "1"},
		{[]int64{5, 5}, "1", "2", "1"},
		{[]int64{5, 4}, "1", "2", "2"},
		{[]int64{4, 5}, "1", "2", "1"},
		{[]int64{5, 1, 4}, "3", "2", "2"},
		{[]int64{4, 1, 5}, "1", "2", "2"},
		{[]int64{9, 8, 7, 6}, "3", "4", "4"},
		{[]int64{6, 7, 8, 9}, "1", "2", "1"},
		{[]int64{7, 7, 7, 7}, "1", "2", "1"},
		{[]int64{8, 7, 7, 7}, "3", "2", "2"},
		{[]int64{8, 8, 7, 7}, "3", "4", "3"},
		{[]int64{9, 9, 9, 9, 7, 7, 7, 7}, "5", "6", "5"},
		{[]int64{0, -1, 1, 0}, "1", "2", "2"},
		{[]int64{-1, -2, -3, -2}, "3", "2", "3"},
		{[]int64{most, most, least, least}, "3", "4", "3"},
		{[]int64{most, most, most, most - 1}, "1", "4", "4"},
		{[]int64{0, 0, least, most}, "3", "2", "3"},
		{[]int64{1, 1, 1 << 32, 1 << 32}, "1", "2", "1"},
		{[]int64{1<<32 + 1, 1 << 32, 2, 1<<32 + 1}, "3", "2", "3"},
	} {
		s := used(t, one.moments...)
		before := s.All()
		for range 20 {
			isOldest(t, s, "x", one.x)
			isOldest(t, s, "y", one.y)
			isOldest(t, s, "z", "")
			isOldest(t, s, "", "")
			isOldestOfAll(t, s, one.z)
		}
		// Asking changes nothing, not the Used either.
		isAll(t, s, before...)
	}
}

// What was used goes behind the others, in the order of its uses.
func TestOldestBehindUse(t *testing.T) {
	s := used(t, 1, 1, 1, 1, 1, 1)
	for now := range int64(60) {
		c, ok := s.OldestOfAll()
		if want := strconv.Itoa(int(now)%6 + 1); c.Name != want || !ok {
			t.Errorf("at %d %s is the oldest one, not %s", now, shown(c), want)
		}
		isUsed(t, s, c, now+2, true)
	}
	all := s.All()
	isUsed(t, s, all[4], -3, true)
	isOldestOfAll(t, s, "5")
	isOldest(t, s, "x", "5")
	isOldest(t, s, "y", "2")
}

// One that is put where there is one has its own Used, and that one's number.
func TestOldestBehindPut(t *testing.T) {
	s := used(t, 4, 5, 6, 7)
	again := s.All()[0]
	again.Used, again.Born = 6, 99
	isPut(t, s, again, "x", true)
	isOldest(t, s, "x", "1")
	isOldestOfAll(t, s, "2")
	again.Used = 7
	isPut(t, s, again, "y", true)
	isOldest(t, s, "x", "3")
	isOldest(t, s, "y", "2")
	isDropped(t, s, s.All()[1], true)
	isOldest(t, s, "y", "1")
	isOldestOfAll(t, s, "3")
	isDropped(t, s, s.All()[1], true)
	isOldest(t, s, "x", "")
	isOldestOfAll(t, s, "1")
}

// Neither Born nor Expires, nor a number of one's own tells who is the oldest.
func TestOldestWhateverElseACookieHas(t *testing.T) {
	s := shelf.New()
	for i, c := range []api.Cookie{
		{Name: "a", Used: 5, Born: 9, Expires: 9, Seq: 9, Path: "/zz"},
		{Name: "b", Used: 5, Born: 1, Expires: 1, Seq: 1, Path: "/"},
		{Name: "c", Used: 4, Born: 10, Expires: 10, Seq: 10, Path: "/zzz", Secure: true},
	} {
		isPut(t, s, c, "x", false)
		isOldest(t, s, "x", []string{"a", "a", "c"}[i])
		isOldestOfAll(t, s, []string{"a", "a", "c"}[i])
	}
}

func TestAllGoByAge(t *testing.T) {
	s := shelf.New()
	const many = 300
	for i := range many {
		isPut(t, s, cookie(strconv.Itoa(i), 0, int64(i*7919%17)), "x", false)
	}
	last := api.Cookie{Used: -1}
	for range many {
		c, ok := s.Oldest("x")
		if !ok || c.Used < last.Used || c.Used == last.Used && c.Seq <= last.Seq {
			t.Errorf("%s behind %s", shown(c), shown(last))
		}
		isDropped(t, s, c, true)
		last = c
	}
	isEmpty(t, s)
}

// P1, P2

// list is a shelf once more, as the chapter's words say: cookies, one behind
// the other, each looked for one by one.
type list struct {
	cookies []api.Cookie
	sites   []string
	last    int
}

func (l *list) find(c api.Cookie) int {
	return slices.IndexFunc(l.cookies, func(a api.Cookie) bool { return match.Key(a, c) })
}

func (l *list) drop(i int) {
	l.cookies = slices.Delete(l.cookies, i, i+1)
	l.sites = slices.Delete(l.sites, i, i+1)
}

func (l *list) put(c api.Cookie, site string) bool {
	if i := l.find(c); i >= 0 {
		c.Born, c.Seq = l.cookies[i].Born, l.cookies[i].Seq
		l.cookies[i], l.sites[i] = c, site
		return true
	}
	l.last++
	l.cookies, l.sites = append(l.cookies, numbered(c, l.last)), append(l.sites, site)
	return false
}

func (l *list) expire(now int64) int {
	before := len(l.cookies)
	for i := before - 1; i >= 0; i-- {
		if !(l.cookies[i].Expires > now) {
			l.drop(i)
		}
	}
	return before - len(l.cookies)
}

// oldest of a list, by stable sorting: numbers rise along it.
func (l *list) oldest(counts func(site string) bool) (api.Cookie, int) {
	var of []api.Cookie
	for i, c := range l.cookies {
		if counts(l.sites[i]) {
			of = append(of, c)
		}
	}
	if len(of) == 0 {
		return api.Cookie{}, 0
	}
	n := len(of)
	slices.SortStableFunc(of, func(a, b api.Cookie) int {
		switch {
		case a.Used < b.Used:
			return -1
		case a.Used > b.Used:
			return 1
		}
		return 0
	})
	return of[0], n
}

// anyCookie: one of few places, with a few moments.
func anyCookie(r *rand.Rand) api.Cookie {
	hosts := []api.Host{named("a.com"), named("b.a.com"), {}, {Kind: api.HostV4, Addr: api.Addr{15: 1}}}
	return api.Cookie{
		Name: []string{"", "a", "b"}[r.IntN(3)], Value: strconv.Itoa(r.IntN(1000)), Host: hosts[r.IntN(4)], Only: r.IntN(2) > 0, Path: []string{"/", "/p", ""}[r.IntN(3)],
		Secure: r.IntN(2) > 0, HttpOnly: r.IntN(2) > 0, Same: r.IntN(4), Expires: int64(r.IntN(40)), Born: int64(r.IntN(20)), Used: int64(r.IntN(6)), Seq: r.IntN(9) - 4,
	}
}

// step does one thing to both, and says what both answered.
func step(r *rand.Rand, s *shelf.Shelf, l *list) (string, string) {
	c, site, now := anyCookie(r), []string{"", "x", "y"}[r.IntN(3)], int64(r.IntN(12))
	i := l.find(c)
	switch r.IntN(20) {
	case 0, 1:
		if i >= 0 {
			l.drop(i)
		}
		return fmt.Sprint("Drop ", s.Drop(c)), fmt.Sprint("Drop ", i >= 0)
	case 2, 3, 4:
		if i >= 0 {
			l.cookies[i].Used = now
		}
		return fmt.Sprint("Use ", s.Use(c, now)), fmt.Sprint("Use ", i >= 0)
	case 5:
		return fmt.Sprint("Expire ", s.Expire(now)), fmt.Sprint("Expire ", l.expire(now))
	}
	return fmt.Sprint("Put ", s.Put(c, site)), fmt.Sprint("Put ", l.put(c, site))
}

// told: what a shelf tells of itself, and what it should.
func told(s *shelf.Shelf, l *list, c api.Cookie) (string, string) {
	all := append([]api.Cookie{}, s.All()...)
	got, ok := s.Get(c)
	shelfSays := fmt.Sprint(all, s.Len(), got, ok)
	want := api.Cookie{}
	i := l.find(c)
	if i >= 0 {
		want = l.cookies[i]
	}
	listSays := fmt.Sprint(append([]api.Cookie{}, l.cookies...), len(l.cookies), want, i >= 0)
	for _, site := range []string{"", "x", "y", "z"} {
		got, ok = s.Oldest(site)
		shelfSays += fmt.Sprint(s.Count(site), got, ok)
		want, n := l.oldest(func(of string) bool { return of == site })
		listSays += fmt.Sprint(n, want, n > 0)
	}
	got, ok = s.OldestOfAll()
	want, n := l.oldest(func(string) bool { return true })
	return shelfSays + fmt.Sprint(got, ok), listSays + fmt.Sprint(want, n > 0)
}

func TestManySteps(t *testing.T) {
	for seed := range uint64(20) {
		r := rand.New(rand.NewPCG(seed, 11))
		s, l := shelf.New(), &list{}
		for i := range 150 {
			got, want := step(r, s, l)
			if got != want {
				t.Fatalf("%d, step %d: %s, not %s", seed, i, got, want)
			}
			got, want = told(s, l, anyCookie(r))
			if got != want {
				t.Fatalf("%d, behind step %d: %s\nnot %s", seed, i, got, want)
			}
		}
	}
}

// The same steps have the same answers, on each shelf.
func TestAnswersHangOnStepsAlone(t *testing.T) {
	run := func() string {
		r := rand.New(rand.NewPCG(7, 7))
		s, l := shelf.New(), &list{}
		said := ""
		for range 150 {
			got, _ := step(r, s, l)
			more, _ := told(s, l, anyCookie(r))
			said += got + more
		}
		return said
	}
	first := run()
	for range 5 {
		if run() != first {
			t.Error("two answers")
		}
	}
}

// A shelf doesn't ask whether a cookie can be.
func TestWrongCookies(t *testing.T) {
	s, l := shelf.New(), &list{}
	for _, c := range wrong() {
		isPut(t, s, c, c.Path, l.put(c, c.Path))
		is(t, s, l.cookies[l.find(c)])
	}
	isAll(t, s, l.cookies...)
	if len(l.cookies) < 100 {
		t.Errorf("%d cookies", len(l.cookies))
	}
	for _, c := range l.cookies {
		isUsed(t, s, c, math.MinInt64, true)
		isDropped(t, s, c, true)
	}
	isEmpty(t, s)
}

func TestManyCookies(t *testing.T) {
	s := shelf.New()
	const many = 100000
	for i := range many {
		c := cookie(strconv.Itoa(i), 0, int64(many-i))
		c.Expires = int64(i)
		isPut(t, s, c, strconv.Itoa(i%1000), false)
	}
	isCount(t, s, "7", many/1000)
	isOldest(t, s, "7", strconv.Itoa(many-993))
	isOldestOfAll(t, s, strconv.Itoa(many-1))
	all := s.All()
	if len(all) != many || s.Len() != many {
		t.Fatalf("%d cookies", len(all))
	}
	for i, c := range all {
		if c.Seq != i+1 || c.Name != strconv.Itoa(i) {
			t.Fatalf("%s at %d", shown(c), i)
		}
	}
	isExpired(t, s, many/2-1, many/2)
	isCount(t, s, "7", many/2000)
	isExpired(t, s, many, many/2)
	isEmpty(t, s)
}

func TestGreatTexts(t *testing.T) {
	long := strings.Repeat("a", 1<<24)
	s := shelf.New()
	a := api.Cookie{Name: long, Value: long, Host: named(long), Path: long}
	b := a
	b.Path += "b"
	isPut(t, s, a, long, false)
	isPut(t, s, b, long+"b", false)
	isPut(t, s, a, long+"b", true)
	is(t, s, numbered(a, 1))
	is(t, s, numbered(b, 2))
	isCount(t, s, long, 0)
	isCount(t, s, long+"b", 2)
	isUsed(t, s, a, 4, true)
	isDropped(t, s, b, true)
	isNotThere(t, s, b)
}
