package jar_test

import (
	"fmt"
	"math"
	"math/rand/v2"
	"slices"
	"strconv"
	"strings"
	"testing"

	"cracknel/admit"
	"cracknel/api"
	"cracknel/header"
	"cracknel/host"
	"cracknel/jar"
	"cracknel/match"
	"cracknel/rule"
	"cracknel/sample"
	"cracknel/suffix"
	"cracknel/url"
)

// table has rules of all kinds.
func table() *suffix.Table {
	all, _ := rule.File("com\nco.uk\n*.ck\n!www.ck\n")
	return suffix.New(all...)
}

// at: the URL that a text is.
func at(t *testing.T, s string) api.URL {
	t.Helper()
	u, e := url.Parse(s)
	if e != api.OK {
		t.Fatalf("%.100q is no URL", s)
	}
	return u
}

// to: the request to a URL, from its own site.
func to(t *testing.T, s string) api.Request {
	t.Helper()
	u := at(t, s)
	return api.Request{Secure: u.Secure, Host: u.Host, Path: u.Path}
}

// shown: the beginning of what a value says.
func shown(x any) string { return fmt.Sprintf("%.600q", fmt.Sprintf("%+v", x)) }

func isSet(t *testing.T, j *jar.Jar, u, text string, want api.Errno) {
	t.Helper()
	isSetAt(t, j, at(t, u), text, want)
}

func isSetAt(t *testing.T, j *jar.Jar, u api.URL, text string, want api.Errno) {
	t.Helper()
	if e := j.Set(u, text); e != want {
		t.Errorf("Set(%s, %.100q) = %d, not %d", shown(u), text, e, want)
	}
}

func isGot(t *testing.T, j *jar.Jar, u, want string) {
	t.Helper()
	isGotOf(t, j, to(t, u), want)
}

func isGotOf(t *testing.T, j *jar.Jar, r api.Request, want string) {
	t.Helper()
	if s := j.Get(r); s != want {
		t.Errorf("Get(%s) = %.300q, not %.300q", shown(r), s, want)
	}
}

func isTicked(t *testing.T, j *jar.Jar, n int64, want api.Errno) {
	t.Helper()
	if e := j.Tick(n); e != want {
		t.Errorf("Tick(%d) = %d, not %d", n, e, want)
	}
}

func isNow(t *testing.T, j *jar.Jar, want int64) {
	t.Helper()
	if now := j.Now(); now != want {
		t.Errorf("Now = %d, not %d", now, want)
	}
}

// isThere: are these all cookies, each as its pair and its number?
func isThere(t *testing.T, j *jar.Jar, want ...string) {
	t.Helper()
	var got []string
	for _, c := range j.Cookies() {
		got = append(got, c.Name+"="+c.Value+" "+strconv.Itoa(c.Seq))
	}
	if !slices.Equal(got, want) {
		t.Errorf("there are %.600q, not %.600q", got, want)
	}
}

// find: the cookie of this name, the first one by its number.
func find(t *testing.T, j *jar.Jar, name string) api.Cookie {
	t.Helper()
	for _, c := range j.Cookies() {
		if c.Name == name {
			return c
		}
	}
	t.Errorf("no cookie %s", name)
	return api.Cookie{}
}

// isUsed: was the cookie of this name used then?
func isUsed(t *testing.T, j *jar.Jar, name string, want int64) {
	t.Helper()
	if c := find(t, j, name); c.Used != want {
		t.Errorf("%s was used at %d, not %d", name, c.Used, want)
	}
}

// fill sets so many cookies, named by numbers from first on.
func fill(t *testing.T, j *jar.Jar, u string, first, count int) {
	t.Helper()
	for i := range count {
		isSet(t, j, u, strconv.Itoa(first+i)+"=v", api.OK)
	}
}

// counts: how many cookies there are of each host, as its text says it.
func counts(j *jar.Jar) map[string]int {
	of := map[string]int{}
	for _, c := range j.Cookies() {
		of[host.Text(c.Host)]++
	}
	return of
}

func isCount(t *testing.T, j *jar.Jar, h string, want int) {
	t.Helper()
	if got := counts(j)[h]; got != want {
		t.Errorf("%d cookies of %s, not %d", got, h, want)
	}
}

// isGone: are just the cookies of these names, of so many from first on, not
// there?
func isGone(t *testing.T, j *jar.Jar, first, count int, gone ...string) {
	t.Helper()
	there := map[string]int{}
	for _, c := range j.Cookies() {
		there[c.Name]++
	}
	var got []string
	for i := range count {
		if name := strconv.Itoa(first + i); there[name] == 0 {
			got = append(got, name)
		}
	}
	if !slices.Equal(got, gone) {
		t.Errorf("%q are gone, not %q", got, gone)
	}
}

// of: so many of these bytes.
func of(size int, s string) string { return strings.Repeat(s, size) }

// P12.1

func TestNew(t *testing.T) {
	j := jar.New(table())
	isNow(t, j, 0)
	isThere(t, j)
	for _, u := range []string{"http://x.com", "https://x.com/p", "http://com", "https://1.2.3.4", "http://[::1]"} {
		isGot(t, j, u, "")
	}
	isNow(t, j, 0)
	isThere(t, j)
	isSet(t, j, "http://x.com/p/q", "a=1", api.OK)
	h, _ := host.Parse("x.com")
	want := api.Cookie{Name: "a", Value: "1", Host: h, Only: true, Path: "/p", Expires: api.Never, Seq: 1}
	if l := j.Cookies(); len(l) != 1 || l[0] != want {
		t.Errorf("%s, not %s", shown(l), shown(want))
	}
}

// Jars of one table have nothing of each other.
func TestJarsAreTheirOwn(t *testing.T) {
	x := table()
	a, b := jar.New(x), jar.New(x)
	isSet(t, a, "https://x.com", "a=1; Secure", api.OK)
	isTicked(t, a, 5, api.OK)
	isNow(t, b, 0)
	isThere(t, b)
	isGot(t, b, "https://x.com", "")
	isSet(t, b, "http://x.com", "a=2", api.OK)
	isThere(t, b, "a=2 1")
	b.Clear()
	isThere(t, a, "a=1 1")
	isNow(t, a, 5)
	c := jar.New(x)
	isThere(t, c)
	isNow(t, c, 0)
}

// A jar goes by its own table.
func TestTablesAreTheirOwn(t *testing.T) {
	none, some := jar.New(suffix.New()), jar.New(table())
	isSet(t, none, "http://a.co.uk", "a=1; Domain=co.uk", api.OK)
	isSet(t, some, "http://a.co.uk", "a=1; Domain=co.uk", api.ErrPublic)
	isSet(t, none, "http://a.co.uk", "a=1; Domain=uk", api.ErrPublic)
	isThere(t, none, "a=1 1")
	isThere(t, some)
}

func TestTick(t *testing.T) {
	const most = api.MaxClock
	for _, before := range []int64{0, 1, 5, 1 << 31, 1<<32 + 5, most / 2, most - 6, most - 1, most} {
		left := most - before
		for _, one := range []struct {
			n    int64
			want api.Errno
		}{
			{0, api.OK}, {left, api.OK}, {left / 2, api.OK},
			{left + 1, api.ErrClock}, {left + 2, api.ErrClock}, {most + 1, api.ErrClock}, {2 * most, api.ErrClock}, {math.MaxInt64, api.ErrClock}, {math.MaxInt64 - before, api.ErrClock}, {math.MaxInt64 - before + 1, api.ErrClock},
			{-1, api.ErrClock}, {-5, api.ErrClock}, {-before - 1, api.ErrClock}, {-most, api.ErrClock}, {-most - 1, api.ErrClock}, {math.MinInt64, api.ErrClock}, {math.MinInt64 + before, api.ErrClock}, {math.MinInt64 + 1, api.ErrClock},
		} {
			j := jar.New(table())
			isTicked(t, j, before, api.OK)
			isSet(t, j, "http://x.com", "a=1; Max-Age=1", api.OK)
			isTicked(t, j, one.n, one.want)
			switch {
			case one.want != api.OK:
				isNow(t, j, before)
				isThere(t, j, "a=1 1")
				// Nor does the clock stand still behind an error.
				isTicked(t, j, left, api.OK)
				isNow(t, j, most)
			case one.n == 0:
				isNow(t, j, before)
				isThere(t, j, "a=1 1")
			default:
				isNow(t, j, before+one.n)
				isThere(t, j)
			}
		}
	}
}

// A time goes back by no number, not even by one that is as near as before.
func TestTickBack(t *testing.T) {
	j := jar.New(table())
	isTicked(t, j, 100, api.OK)
	for n := int64(-101); n < 0; n++ {
		isTicked(t, j, n, api.ErrClock)
		isNow(t, j, 100)
	}
}

func TestTicksAddUp(t *testing.T) {
	j := jar.New(table())
	sum := int64(0)
	for n := range int64(200) {
		isTicked(t, j, n*n*n, api.OK)
		sum += n * n * n
		isNow(t, j, sum)
	}
	isTicked(t, j, api.MaxClock-sum+1, api.ErrClock)
	isTicked(t, j, api.MaxClock-sum, api.OK)
	isTicked(t, j, 1, api.ErrClock)
	isTicked(t, j, 0, api.OK)
	isNow(t, j, 1<<40)
	// Cookies are told at the last time, too.
	isSet(t, j, "http://x.com", "a=1; Max-Age=1", api.OK)
	isSet(t, j, "http://x.com", "b=1", api.OK)
	isGot(t, j, "http://x.com", "a=1; b=1")
	if c := find(t, j, "a"); c.Born != 1<<40 || c.Used != 1<<40 || c.Expires != 1<<40+1 {
		t.Error(shown(c))
	}
}

// A cookie has ended as soon as its Expires isn't above the time.
func TestEnds(t *testing.T) {
	for _, end := range []int64{1, 2, 7, 50, api.MaxAge} {
		j := jar.New(table())
		isTicked(t, j, 10, api.OK)
		isSet(t, j, "http://x.com", "a=1; Max-Age="+strconv.FormatInt(end, 10), api.OK)
		isSet(t, j, "http://x.com", "b=1", api.OK)
		isTicked(t, j, end-1, api.OK)
		isThere(t, j, "a=1 1", "b=1 2")
		isGot(t, j, "http://x.com", "a=1; b=1")
		isTicked(t, j, 1, api.OK)
		isThere(t, j, "b=1 2")
		isGot(t, j, "http://x.com", "b=1")
		isTicked(t, j, api.MaxClock-10-end, api.OK)
		isThere(t, j, "b=1 2")
	}
}

// A time may pass many ends at once.
func TestManyEnd(t *testing.T) {
	j := jar.New(table())
	var want []string
	for i := range 40 {
		age := strconv.Itoa(i*7%40 + 1)
		isSet(t, j, "http://x.com", age+"=v; Max-Age="+age, api.OK)
	}
	isTicked(t, j, 25, api.OK)
	for i := range 40 {
		if age := i*7%40 + 1; age > 25 {
			want = append(want, strconv.Itoa(age)+"=v "+strconv.Itoa(i+1))
		}
	}
	isThere(t, j, want...)
	isTicked(t, j, 100, api.OK)
	isThere(t, j)
	isSet(t, j, "http://x.com", "a=1", api.OK)
	isThere(t, j, "a=1 41")
}

func TestCookiesByNumbers(t *testing.T) {
	j := jar.New(table())
	var want []string
	for i := range 200 {
		// Nothing else of them rises with their numbers.
		name := strconv.Itoa(i * 7919 % 1000)
		site := "http://x" + strconv.Itoa(i*31%17) + ".com/"
		isSet(t, j, site, name+"=v; Path=/"+of(i*41%23, "p"), api.OK)
		want = append(want, name+"=v "+strconv.Itoa(i+1))
		if i%3 == 0 {
			isTicked(t, j, int64(i), api.OK)
			j.Get(to(t, site))
		}
	}
	isThere(t, j, want...)
}

func TestCookiesAreNewMemory(t *testing.T) {
	j := jar.New(table())
	fill(t, j, "http://x.com", 0, 5)
	before := j.Cookies()
	a, b := j.Cookies(), j.Cookies()
	for _, list := range [][]api.Cookie{a[:cap(a)], b[:cap(b)]} {
		for i := range list {
			list[i] = api.Cookie{Name: "written over", Seq: 99}
		}
		if l := j.Cookies(); !slices.Equal(l, before) {
			t.Error(shown(l))
		}
	}
	a, b = j.Cookies(), j.Cookies()
	_ = append(a[:1], api.Cookie{Name: "behind"})
	if !slices.Equal(b, before) {
		t.Error(shown(b))
	}
	// Nor does an answer change behind its call.
	isTicked(t, j, 9, api.OK)
	j.Get(to(t, "http://x.com"))
	isSet(t, j, "http://x.com", "0=again", api.OK)
	j.Clear()
	if !slices.Equal(b, before) {
		t.Error(shown(b))
	}
}

func TestClear(t *testing.T) {
	j := jar.New(table())
	isTicked(t, j, 7, api.OK)
	isSet(t, j, "https://x.com", "a=1; Secure", api.OK)
	isSet(t, j, "https://x.com", "b=1", api.OK)
	isTicked(t, j, 2, api.OK)
	for range 2 {
		j.Clear()
		isThere(t, j)
		isNow(t, j, 9)
		isGot(t, j, "https://x.com", "")
	}
	// Nothing is left beside which this one would stand, nor a Born in its place.
	isSet(t, j, "http://x.com", "b=2", api.OK)
	isSet(t, j, "http://x.com", "a=2", api.OK)
	isThere(t, j, "b=2 1", "a=2 2")
	for _, name := range []string{"a", "b"} {
		if c := find(t, j, name); c.Born != 9 || c.Used != 9 {
			t.Error(shown(c))
		}
	}
	// Time goes on from there, and no further than it may.
	isTicked(t, j, api.MaxClock-8, api.ErrClock)
	isTicked(t, j, 1, api.OK)
	isNow(t, j, 10)
}

func TestClearOfNone(t *testing.T) {
	j := jar.New(table())
	j.Clear()
	isNow(t, j, 0)
	isThere(t, j)
	isSet(t, j, "http://x.com", "a=1; Max-Age=1", api.OK)
	isTicked(t, j, 1, api.OK)
	j.Clear()
	isSet(t, j, "http://x.com", "a=1", api.OK)
	isThere(t, j, "a=1 1")
}

// What went has no room any more.
func TestClearMakesRoom(t *testing.T) {
	j := jar.New(table())
	fill(t, j, "http://x.com", 0, 50)
	j.Clear()
	fill(t, j, "http://x.com", 100, 50)
	isGone(t, j, 100, 50)
	isCount(t, j, "x.com", 50)
	isThere(t, j, func() (want []string) {
		for i := range 50 {
			want = append(want, strconv.Itoa(100+i)+"=v "+strconv.Itoa(i+1))
		}
		return want
	}()...)
}

// P12.2

func TestSetWhatIsTaken(t *testing.T) {
	j, x := jar.New(table()), table()
	isTicked(t, j, 1000, api.OK)
	for i, one := range [][2]string{
		{"https://a.x.com:8443/p/q/r?s", "n=v; Domain=.X.com; Max-Age=7; Secure; HttpOnly; SameSite=None"},
		{"http://a.x.com/p", "v"},
		{"http://a.x.com/p", "k="},
		{"https://1.2.3.4", "a=b; Path=/x; Expires=1 jan 2020 0:0:0"},
		{"https://[::1]/p/", "__Host-a=b; Secure; Path=/; SameSite=Strict"},
		{"http://com", "a=b; Domain=com; SameSite=Lax"},
		{"http://a.b.ck/p/q/r", "a=b=c; Domain=a.b.ck"},
	} {
		isSet(t, j, one[0], one[1], api.OK)
		h, _ := header.Parse(one[1])
		want, e := admit.Take(x, at(t, one[0]), h, 1000)
		want.Seq = i + 1
		if l := j.Cookies(); e != api.OK || len(l) != i+1 || l[i] != want {
			t.Errorf("%s, not %s", shown(l), shown(want))
		}
	}
}

func TestSetInATakenPlace(t *testing.T) {
	j := jar.New(table())
	isTicked(t, j, 10, api.OK)
	isSet(t, j, "https://a.x.com/p/q", "a=1; Secure; Domain=x.com", api.OK)
	isSet(t, j, "https://a.x.com/p/q", "b=1", api.OK)
	isTicked(t, j, 10, api.OK)
	isSet(t, j, "https://x.com/y/z", "a=2; HttpOnly; Domain=x.com; Path=/p; Max-Age=5", api.OK)
	isThere(t, j, "a=2 1", "b=1 2")
	h, _ := host.Parse("x.com")
	want := api.Cookie{Name: "a", Value: "2", Host: h, Path: "/p", HttpOnly: true, Expires: 25, Born: 10, Used: 20, Seq: 1}
	if c := find(t, j, "a"); c != want {
		t.Errorf("%s, not %s", shown(c), shown(want))
	}
	// Other places: another name, host, path, or of one host alone.
	for i, one := range [][2]string{
		{"https://x.com/p/", "A=3; Domain=x.com"}, {"https://a.x.com/p/", "a=4; Domain=a.x.com"}, {"https://x.com/p/", "a=5; Domain=x.com; Path=/p/"}, {"https://x.com/p/", "a=6"}, {"https://y.com/p/", "a=7; Domain=y.com"},
	} {
		isSet(t, j, one[0], one[1], api.OK)
		if l := j.Cookies(); len(l) != i+3 || l[i+2].Seq != i+3 || l[0] != want {
			t.Error(shown(l))
		}
	}
}

// One that has ended already goes at once, but it took a place and a number.
func TestSetOfOneThatHasEnded(t *testing.T) {
	for _, end := range []string{"Max-Age=0", "Max-Age=-1", "Expires=1 jan 1970 0:0:0", "Expires=1 jan 1970 0:0:10", "Expires=1 jan 1601 0:0:0", "Max-Age=0; Expires=1 jan 2020 0:0:0"} {
		j := jar.New(table())
		isTicked(t, j, 10, api.OK)
		isSet(t, j, "http://x.com", "a=1; "+end, api.OK)
		isThere(t, j)
		isGot(t, j, "http://x.com", "")
		isSet(t, j, "http://x.com", "b=1", api.OK)
		isSet(t, j, "http://x.com", "c=1", api.OK)
		isThere(t, j, "b=1 2", "c=1 3")
		isSet(t, j, "http://x.com", "b=2; "+end, api.OK)
		isThere(t, j, "c=1 3")
		isGot(t, j, "http://x.com", "c=1")
		isTicked(t, j, 5, api.OK)
		isSet(t, j, "http://x.com", "b=3", api.OK)
		isThere(t, j, "c=1 3", "b=3 4")
		if c := find(t, j, "b"); c.Born != 15 {
			t.Error(shown(c))
		}
		// In another place it takes nothing from there.
		isSet(t, j, "http://x.com", "c=2; Path=/x; "+end, api.OK)
		isThere(t, j, "c=1 3", "b=3 4")
	}
	j := jar.New(table())
	isTicked(t, j, 10, api.OK)
	isSet(t, j, "http://x.com", "a=1; Expires=1 jan 1970 0:0:11", api.OK)
	isThere(t, j, "a=1 1")
}

// A cookie that ended with time is forgotten: one in its place is a new one.
func TestSetWhereOneHasEnded(t *testing.T) {
	j := jar.New(table())
	isSet(t, j, "http://x.com", "a=1; Max-Age=5", api.OK)
	isTicked(t, j, 4, api.OK)
	isSet(t, j, "http://x.com", "a=2; Max-Age=5", api.OK)
	if c := find(t, j, "a"); c.Born != 0 || c.Seq != 1 || c.Used != 4 {
		t.Error(shown(c))
	}
	isTicked(t, j, 5, api.OK)
	isSet(t, j, "http://x.com", "a=3; Max-Age=5", api.OK)
	if c := find(t, j, "a"); c.Born != 9 || c.Seq != 2 || c.Used != 9 {
		t.Error(shown(c))
	}
}

// state: all that a jar tells, without a Get.
func state(j *jar.Jar) string { return fmt.Sprint(j.Now(), j.Cookies()) }

// full has a few cookies, a secure one among them.
func full(t *testing.T) *jar.Jar {
	j := jar.New(table())
	isTicked(t, j, 3, api.OK)
	isSet(t, j, "https://x.com", "s=1; Secure", api.OK)
	isSet(t, j, "http://x.com", "a=1", api.OK)
	isTicked(t, j, 4, api.OK)
	return j
}

// isUnchanged: is a jar of full's as it was, its last number too?
func isUnchanged(t *testing.T, j *jar.Jar) {
	t.Helper()
	if got, want := state(j), state(full(t)); got != want {
		t.Errorf("%.600s, not %.600s", got, want)
	}
	isSet(t, j, "http://x.com", "z=1", api.OK)
	isThere(t, j, "s=1 1", "a=1 2", "z=1 3")
}

func TestSetOfWrongURLs(t *testing.T) {
	j := full(t)
	for _, u := range sample.WrongURLs() {
		for _, text := range []string{"a=2", "s=2", "", "a\x00", "; Path=/", "a=" + of(4096, "b"), "a=2; Domain=com", "a=2; Secure", "a=2; Max-Age=0"} {
			isSetAt(t, j, u, text, api.ErrURL)
		}
	}
	isUnchanged(t, j)
}

// What Parse refuses is told ahead of what Take does, and that ahead of
// ErrOverlay.
func TestSetOfWrongHeaders(t *testing.T) {
	for _, one := range []struct {
		u, text string
		want    api.Errno
	}{
		{"http://x.com", "", api.ErrEmpty}, {"http://x.com", "=", api.ErrEmpty}, {"http://x.com", " ; a=b", api.ErrEmpty}, {"http://x.com", "; Domain=com", api.ErrEmpty}, {"http://x.com", "=; Secure", api.ErrEmpty},
		{"http://x.com", "a\x00", api.ErrControl}, {"http://x.com", "a=2\n", api.ErrControl}, {"http://x.com", "\x7f", api.ErrControl}, {"http://x.com", "s=2; x=\r", api.ErrControl}, {"http://x.com", "; x=\x01", api.ErrControl}, {"http://x.com", "a=2; Domain=com; x\x08", api.ErrControl}, {"http://x.com", of(5000, "a") + "\n", api.ErrControl},
		{"http://x.com", of(4097, "a"), api.ErrSize}, {"http://x.com", "s=" + of(4096, "a"), api.ErrSize}, {"http://x.com", of(4096, "s") + "=2; Domain=com; Secure", api.ErrSize},
		{"http://x.com", "a=2; Domain=x..com", api.ErrDomain}, {"http://x.com", "s=2; Domain=*.com", api.ErrDomain},
		{"http://x.com", "a=2; Domain=com", api.ErrPublic}, {"http://x.com", "s=2; Domain=com", api.ErrPublic}, {"https://x.com", "s=2; Domain=b.ck", api.ErrPublic},
		{"http://x.com", "a=2; Domain=y.com", api.ErrForeign}, {"http://x.com", "s=2; Domain=a.x.com", api.ErrForeign},
		{"http://x.com", "a=2; Secure", api.ErrSecure}, {"http://x.com", "s=2; Secure", api.ErrSecure}, {"http://x.com", "s=2; Secure; SameSite=None", api.ErrSecure},
		{"http://x.com", "a=2; SameSite=None", api.ErrCross}, {"http://x.com", "s=2; SameSite=None", api.ErrCross}, {"https://x.com", "a=2; SameSite=None", api.ErrCross},
		{"http://x.com", "__Secure-a=2", api.ErrPrefix}, {"https://x.com", "__Host-a=2; Secure; Domain=x.com; Path=/", api.ErrPrefix}, {"http://x.com", "__Host-a=2; Path=/", api.ErrPrefix},
		{"http://x.com", "s=2", api.ErrOverlay}, {"http://x.com", "s=2; Max-Age=0", api.ErrOverlay},
	} {
		j := full(t)
		for range 2 {
			isSet(t, j, one.u, one.text, one.want)
		}
		isUnchanged(t, j)
	}
}

// A name that promises something is refused by its prefix, be there one of
// that name or not.
func TestPrefixAheadOfOverlay(t *testing.T) {
	j := jar.New(table())
	isSet(t, j, "https://x.com", "__Secure-a=1; Secure", api.OK)
	isSet(t, j, "http://x.com", "__Secure-a=2", api.ErrPrefix)
	isSet(t, j, "http://x.com", "=__Secure-a", api.ErrPrefix)
	isThere(t, j, "__Secure-a=1 1")
}

// overlaid: a cookie that is there, one that is set behind it, and whether that
// would stand beside it.
type overlaid struct {
	u, text   string
	by, other string
	want      api.Errno
}

func isOverlaid(t *testing.T, one overlaid) {
	t.Helper()
	j := jar.New(table())
	isSet(t, j, one.u, one.text, api.OK)
	before := state(j)
	if e := j.Set(at(t, one.by), one.other); e != one.want {
		t.Errorf("%+v: %d", one, e)
	}
	if (state(j) == before) != (one.want != api.OK) {
		t.Errorf("%+v: %s", one, state(j))
	}
	// By https the same one stands there.
	j = jar.New(table())
	isSet(t, j, one.u, one.text, api.OK)
	isSet(t, j, strings.Replace(one.by, "http:", "https:", 1), one.other, api.OK)
}

func TestOverlayByHosts(t *testing.T) {
	for _, one := range []overlaid{
		{"https://x.com", "s=1; Secure", "http://x.com", "s=2", api.ErrOverlay},
		{"https://x.com", "s=1; Secure; Domain=x.com", "http://x.com", "s=2", api.ErrOverlay},
		{"https://x.com", "s=1; Secure", "http://x.com", "s=2; Domain=x.com", api.ErrOverlay},
		{"https://x.com:8443", "s=1; Secure", "http://x.com:8080", "s=2", api.ErrOverlay},
		// The new one's host belongs to the other one's.
		{"https://x.com", "s=1; Secure; Domain=x.com", "http://a.x.com", "s=2", api.ErrOverlay},
		{"https://x.com", "s=1; Secure; Domain=x.com", "http://b.a.x.com", "s=2; Domain=a.x.com", api.ErrOverlay},
		{"https://x.com", "s=1; Secure", "http://a.x.com", "s=2", api.ErrOverlay},
		{"https://com", "s=1; Secure", "http://x.com", "s=2", api.ErrOverlay},
		// The other one's belongs to the new one's.
		{"https://a.x.com", "s=1; Secure", "http://x.com", "s=2; Domain=x.com", api.ErrOverlay},
		{"https://b.a.x.com", "s=1; Secure", "http://c.x.com", "s=2; Domain=x.com", api.ErrOverlay},
		{"https://a.x.com", "s=1; Secure", "http://x.com", "s=2", api.ErrOverlay},
		{"https://x.com", "s=1; Secure; Domain=x.com", "http://com", "s=2", api.ErrOverlay},
		// Neither does.
		{"https://a.x.com", "s=1; Secure", "http://b.x.com", "s=2", api.OK},
		{"https://a.x.com", "s=1; Secure; Domain=a.x.com", "http://b.x.com", "s=2; Domain=b.x.com", api.OK},
		{"https://x.com", "s=1; Secure; Domain=x.com", "http://ax.com", "s=2", api.OK},
		{"https://ax.com", "s=1; Secure; Domain=ax.com", "http://x.com", "s=2; Domain=x.com", api.OK},
		{"https://x.com", "s=1; Secure", "http://y.com", "s=2", api.OK},
		{"https://x.com", "s=1; Secure", "http://x.org", "s=2", api.OK},
		{"https://x.com", "s=1; Secure", "http://com.x", "s=2", api.OK},
		// Addresses belong to themselves alone.
		{"https://1.2.3.4", "s=1; Secure", "http://1.2.3.4", "s=2", api.ErrOverlay},
		{"https://1.2.3.4", "s=1; Secure", "http://2.3.4.5", "s=2", api.OK},
		{"https://[::1]", "s=1; Secure", "http://[0:0::1]", "s=2", api.ErrOverlay},
		{"https://[::1]", "s=1; Secure", "http://[::2]", "s=2", api.OK},
		{"https://1.2.3.4", "s=1; Secure", "http://[::102:304]", "s=2", api.OK},
	} {
		isOverlaid(t, one)
	}
}

func TestOverlayByPaths(t *testing.T) {
	for _, one := range [][3]string{
		{"/", "/", "yes"}, {"/", "/p", "yes"}, {"/", "/p/", "yes"}, {"/", "//", "yes"},
		{"/p", "/p", "yes"}, {"/p", "/p/", "yes"}, {"/p", "/p/q", "yes"}, {"/p/", "/p/", "yes"}, {"/p/", "/p/q", "yes"}, {"/p/q", "/p/q/r/s", "yes"},
		{"/p", "/", "no"}, {"/p/", "/", "no"}, {"/p/", "/p", "no"}, {"/p", "/pq", "no"}, {"/p", "/P", "no"}, {"/p/q", "/p", "no"}, {"/p/q", "/p/", "no"}, {"/p", "/q", "no"}, {"/p", "/q/p", "no"}, {"/pq", "/p", "no"}, {"//", "/", "no"},
	} {
		want := api.OK
		if one[2] == "yes" {
			want = api.ErrOverlay
		}
		isOverlaid(t, overlaid{"https://x.com", "s=1; Secure; Path=" + one[0], "http://x.com", "s=2; Path=" + one[1], want})
		isOverlaid(t, overlaid{"https://a.x.com", "s=1; Secure; Path=" + one[0], "http://x.com", "s=2; Domain=x.com; Path=" + one[1], want})
		isOverlaid(t, overlaid{"https://x.com", "s=1; Secure; Path=" + one[0], "http://a.x.com", "s=2; Path=" + one[1], want})
		// It's the cookies' paths that count, not the URLs'.
		isOverlaid(t, overlaid{"https://x.com/y/z", "s=1; Secure; Path=" + one[0], "http://x.com" + one[0], "s=2; Path=" + one[1], want})
		if strings.Trim(one[1], "/") != "" {
			isOverlaid(t, overlaid{"https://x.com", "s=1; Secure; Path=" + one[0], "http://x.com" + one[1] + "/z", "s=2", want})
		}
	}
}

func TestOverlayByNames(t *testing.T) {
	for _, one := range []overlaid{
		{"https://x.com", "s=1; Secure", "http://x.com", "s=", api.ErrOverlay},
		{"https://x.com", "s=; Secure", "http://x.com", "s=1", api.ErrOverlay},
		{"https://x.com", "=1; Secure", "http://x.com", "2", api.ErrOverlay},
		{"https://x.com", "s; Secure", "http://x.com", "=s", api.ErrOverlay},
		{"https://x.com", "s=1; Secure", "http://x.com", "S=1", api.OK},
		{"https://x.com", "s=1; Secure", "http://x.com", "ss=1", api.OK},
		{"https://x.com", "s=1; Secure", "http://x.com", "s", api.OK},
		{"https://x.com", "s; Secure", "http://x.com", "s=1", api.OK},
		{"https://x.com", "s=1; Secure", "http://x.com", "1", api.OK},
	} {
		isOverlaid(t, one)
	}
}

// What isn't Secure is overlaid by anyone, however it came; what is Secure
// isn't, whatever else it says.
func TestOverlayOfSecureAlone(t *testing.T) {
	for _, one := range []overlaid{
		{"https://x.com", "s=1", "http://x.com", "s=2", api.OK},
		{"https://x.com", "s=1; HttpOnly; SameSite=Strict", "http://x.com", "s=2", api.OK},
		{"http://x.com", "s=1", "http://x.com", "s=2", api.OK},
		{"http://x.com", "s=1; Path=/", "http://a.x.com", "s=2; Path=/p", api.OK},
		{"https://x.com", "s=1; Secure; HttpOnly; SameSite=None", "http://x.com", "s=2; HttpOnly; SameSite=Lax", api.ErrOverlay},
		{"https://x.com", "s=1; Secure; Max-Age=1", "http://x.com", "s=2; Max-Age=9", api.ErrOverlay},
		{"https://x.com", "s=1; Secure", "http://x.com", "s=2; Max-Age=0", api.ErrOverlay},
		{"https://x.com", "s=1; Secure", "http://x.com", "s=1", api.ErrOverlay},
	} {
		isOverlaid(t, one)
	}
}

// By https a cookie may take a Secure one's place, and be Secure no more.
func TestNoOverlayByHttps(t *testing.T) {
	j := jar.New(table())
	isSet(t, j, "https://x.com", "s=1; Secure", api.OK)
	isSet(t, j, "https://x.com", "s=2", api.OK)
	isThere(t, j, "s=2 1")
	isSet(t, j, "http://x.com", "s=3", api.OK)
	isThere(t, j, "s=3 1")
	isSet(t, j, "https://x.com", "s=4; Secure", api.OK)
	isSet(t, j, "http://x.com", "s=5", api.ErrOverlay)
	isSet(t, j, "https://a.x.com", "s=6", api.OK)
	isThere(t, j, "s=4 1", "s=6 2")
}

// One of many is enough, wherever it stands; what has ended counts no more.
func TestOverlayOfOneOfMany(t *testing.T) {
	for place := range 6 {
		j := jar.New(table())
		for i := range 6 {
			text := "s=1; Path=/" + strconv.Itoa(i)
			if i == place {
				text = "s=1; Path=/; Secure; Max-Age=5"
			}
			isSet(t, j, "https://x.com", text, api.OK)
		}
		isSet(t, j, "http://x.com", "s=2; Path=/9", api.ErrOverlay)
		isTicked(t, j, 4, api.OK)
		isSet(t, j, "http://x.com", "s=2; Path=/9", api.ErrOverlay)
		isTicked(t, j, 1, api.OK)
		isSet(t, j, "http://x.com", "s=2; Path=/9", api.OK)
		if l := j.Cookies(); len(l) != 6 || l[5].Seq != 7 {
			t.Error(shown(l))
		}
	}
}

func TestPerSite(t *testing.T) {
	j := jar.New(table())
	fill(t, j, "http://x.com", 0, 50)
	isGone(t, j, 0, 50)
	// Of those that were used at one time the least number goes.
	fill(t, j, "http://x.com", 50, 1)
	isGone(t, j, 0, 51, "0")
	fill(t, j, "http://x.com", 51, 2)
	isGone(t, j, 0, 53, "0", "1", "2")
	isCount(t, j, "x.com", 50)
	// One that comes back is a new one.
	isSet(t, j, "http://x.com", "1=again", api.OK)
	isGone(t, j, 0, 53, "0", "2", "3")
	if c := find(t, j, "1"); c.Seq != 54 {
		t.Error(shown(c))
	}
}

// What was used first goes first, by whatever it was used.
func TestPerSiteByUse(t *testing.T) {
	j := jar.New(table())
	for i := range 50 {
		isSet(t, j, "http://x.com", strconv.Itoa(i)+"=v; Path=/"+strconv.Itoa(i), api.OK)
	}
	isTicked(t, j, 1, api.OK)
	for _, used := range []int{0, 2, 4} {
		isGot(t, j, "http://x.com/"+strconv.Itoa(used), strconv.Itoa(used)+"=v")
	}
	// In its place again it is used now, too, but keeps its number.
	isSet(t, j, "http://x.com", "1=again; Path=/1", api.OK)
	fill(t, j, "http://x.com", 50, 3)
	isGone(t, j, 0, 53, "3", "5", "6")
	isTicked(t, j, 1, api.OK)
	for i := range 50 {
		if i != 9 && i != 12 {
			j.Get(to(t, "http://x.com/"+strconv.Itoa(i)))
		}
	}
	fill(t, j, "http://x.com", 60, 2)
	isGone(t, j, 0, 53, "3", "5", "6", "9", "12")
	// All others were used at one time, those of the Path / by each Get, too.
	fill(t, j, "http://x.com", 62, 4)
	isGone(t, j, 0, 53, "0", "1", "2", "3", "4", "5", "6", "9", "12")
}

// A cookie in a place that is taken already pushes none away.
func TestPerSiteInATakenPlace(t *testing.T) {
	j := jar.New(table())
	fill(t, j, "http://x.com", 0, 50)
	for range 2 {
		fill(t, j, "http://x.com", 0, 50)
		isGone(t, j, 0, 50)
	}
	isTicked(t, j, 1, api.OK)
	isSet(t, j, "http://x.com", "0=again", api.OK)
	isGone(t, j, 0, 50)
	fill(t, j, "http://x.com", 50, 1)
	isGone(t, j, 0, 51, "1")
}

// What has ended takes no other one's room, and makes room itself.
func TestPerSiteBehindEnds(t *testing.T) {
	j := jar.New(table())
	fill(t, j, "http://x.com", 0, 50)
	isSet(t, j, "http://x.com", "50=v; Max-Age=0", api.OK)
	isSet(t, j, "http://a.x.com", "51=v; Expires=1 jan 1970 0:0:0", api.OK)
	isGone(t, j, 0, 52, "50", "51")
	isSet(t, j, "http://x.com", "7=v; Max-Age=0", api.OK)
	isSet(t, j, "http://x.com", "52=v; Max-Age=5", api.OK)
	isGone(t, j, 0, 53, "7", "50", "51")
	isTicked(t, j, 5, api.OK)
	isSet(t, j, "http://x.com", "53=v", api.OK)
	isGone(t, j, 0, 54, "7", "50", "51", "52")
	isCount(t, j, "x.com", 50)
	isSet(t, j, "http://x.com", "54=v", api.OK)
	isGone(t, j, 0, 55, "0", "7", "50", "51", "52")
}

// All hosts of a site count together, by all schemes and ports, of one host
// alone or not; other sites count for themselves.
func TestSites(t *testing.T) {
	j := jar.New(table())
	fill(t, j, "http://x.com", 0, 10)
	fill(t, j, "https://a.x.com:8443/p/q", 10, 10)
	fill(t, j, "http://b.a.x.com:99", 20, 10)
	for i := range 20 {
		isSet(t, j, "http://c.x.com", strconv.Itoa(30+i)+"=v; Domain=x.com", api.OK)
	}
	for i, other := range []string{"http://y.com", "http://ax.com", "http://x.co.uk", "http://x.org", "http://com", "http://1.2.3.4"} {
		fill(t, j, other, 1000+50*i, 50)
	}
	isGone(t, j, 0, 50)
	isGone(t, j, 1000, 300)
	fill(t, j, "http://d.x.com", 50, 1)
	isGone(t, j, 0, 51, "0")
	fill(t, j, "https://x.com", 51, 9)
	isSet(t, j, "http://e.x.com", "60=v; Domain=e.x.com", api.OK)
	isGone(t, j, 0, 61, numbers(0, 11)...)
	isGone(t, j, 1000, 300)
	isSet(t, j, "http://y.com", "61=v", api.OK)
	isGone(t, j, 0, 62, numbers(0, 11)...)
	isGone(t, j, 1000, 300, "1000")
}

// numbers from one to another one, written.
func numbers(from, to int) []string {
	var all []string
	for i := from; i < to; i++ {
		all = append(all, strconv.Itoa(i))
	}
	return all
}

// A host whose Site is empty counts for itself, and so does an address.
func TestSitesOfTheirOwn(t *testing.T) {
	for _, one := range []struct {
		u, other string
		apart    bool
	}{
		{"http://com", "http://org", true}, {"http://com", "https://com:99/p", false}, {"http://com", "http://co.uk", true}, {"http://co.uk", "http://uk", true},
		{"http://a.ck", "http://b.ck", true}, {"http://a.ck", "http://ck", true}, {"http://ck", "https://CK", false}, {"http://www.ck", "http://ck", true}, {"http://www.ck", "http://a.www.ck", false},
		{"http://x.com", "http://com", true}, {"http://x.org", "http://org", true}, {"http://localhost", "http://a.localhost", true}, {"http://a.co.uk", "http://b.a.co.uk", false}, {"http://a.b.ck", "http://c.b.ck", true}, {"http://a.b.ck", "http://c.a.b.ck", false},
		{"http://1.2.3.4", "http://1.2.3.5", true}, {"http://1.2.3.4", "https://1.2.3.4:99", false}, {"http://[::1]", "http://[::2]", true}, {"http://[::1]", "http://[0:0:0::1]", false}, {"http://1.2.3.4", "http://[::102:304]", true},
	} {
		j := jar.New(table())
		fill(t, j, one.u, 0, 50)
		fill(t, j, one.other, 50, 1)
		if one.apart {
			isGone(t, j, 0, 51)
			fill(t, j, one.u, 51, 1)
		}
		isGone(t, j, 0, 51, "0")
	}
}

// crowd has 3000 cookies, of sixty sites, named by numbers as they came.
func crowd(t *testing.T) *jar.Jar {
	j := jar.New(table())
	for site := range 60 {
		fill(t, j, "https://s"+strconv.Itoa(site)+".com", 50*site, 50)
	}
	isGone(t, j, 0, 3000)
	return j
}

func TestMaxCookies(t *testing.T) {
	j := crowd(t)
	fill(t, j, "https://x.com", 3000, 1)
	isGone(t, j, 0, 3001, "0")
	// In a place that is taken, or of one that has ended: none goes.
	fill(t, j, "https://x.com", 3000, 1)
	fill(t, j, "https://s7.com", 350, 1)
	isSet(t, j, "https://x.com", "3001=v; Max-Age=0", api.OK)
	isSet(t, j, "https://y.com", "3001=v; Expires=1 jan 1970 0:0:0", api.OK)
	isGone(t, j, 0, 3001, "0")
	isTicked(t, j, 1, api.OK)
	isGot(t, j, "https://s0.com", strings.Join(numbers(1, 50), "=v; ")+"=v")
	fill(t, j, "https://x.com", 3001, 2)
	isGone(t, j, 0, 3003, "0", "50", "51")
	// Where a site has too many, its own goes, and that's enough.
	fill(t, j, "https://s9.com", 3003, 1)
	isGone(t, j, 0, 3004, "0", "50", "51", "450")
	// A site with room: another one's, used first of all.
	fill(t, j, "https://s0.com", 3004, 1)
	isGone(t, j, 0, 3005, "0", "50", "51", "52", "450")
	if n := len(j.Cookies()); n != 3000 {
		t.Errorf("%d cookies", n)
	}
}

// What has ended makes room among all.
func TestMaxCookiesBehindEnds(t *testing.T) {
	j := crowd(t)
	isSet(t, j, "https://s3.com", "150=v; Max-Age=5", api.OK)
	isSet(t, j, "https://s4.com", "200=v; Max-Age=0", api.OK)
	isSet(t, j, "https://x.com", "3000=v", api.OK)
	isGone(t, j, 0, 3001, "200")
	isTicked(t, j, 5, api.OK)
	isSet(t, j, "https://x.com", "3001=v", api.OK)
	isGone(t, j, 0, 3002, "150", "200")
	isSet(t, j, "https://x.com", "3002=v", api.OK)
	isGone(t, j, 0, 3003, "0", "150", "200")
	j.Clear()
	isThere(t, j)
	fill(t, j, "https://x.com", 0, 50)
	isGone(t, j, 0, 50)
}

// P12.3

func TestGetInOrder(t *testing.T) {
	j := jar.New(table())
	for _, text := range []string{"a=1; Path=/", "b=2; Path=/p", "c=3; Path=/p/q", "d=4; Path=/", "e=5; Path=/p/", "f=6; Path=/p", "g=7; Path=/p/q", "h=8; Path=/p/q/", "i=9; Path=/other"} {
		isSet(t, j, "http://x.com", text, api.OK)
	}
	isGot(t, j, "http://x.com/p/q/r", "h=8; c=3; g=7; e=5; b=2; f=6; a=1; d=4")
	isGot(t, j, "http://x.com/p/q", "c=3; g=7; e=5; b=2; f=6; a=1; d=4")
	isGot(t, j, "http://x.com/p", "b=2; f=6; a=1; d=4")
	isGot(t, j, "http://x.com/", "a=1; d=4")
	isGot(t, j, "http://x.com/other", "i=9; a=1; d=4")
	// Neither use nor a new value changes the order, but a new number does.
	isTicked(t, j, 5, api.OK)
	isGot(t, j, "http://x.com/", "a=1; d=4")
	isSet(t, j, "http://x.com", "c=again; Path=/p/q", api.OK)
	isSet(t, j, "http://x.com", "a=; Max-Age=0", api.OK)
	isSet(t, j, "http://x.com", "a=again", api.OK)
	isGot(t, j, "http://x.com/p/q", "c=again; g=7; e=5; b=2; f=6; d=4; a=again")
}

// Of one length paths are alike, and hosts say nothing of the order.
func TestGetByNumbers(t *testing.T) {
	j := jar.New(table())
	for _, one := range [][2]string{{"https://a.x.com", "z=1"}, {"https://x.com", "y=2; Domain=x.com"}, {"https://a.x.com", "z=3; Domain=a.x.com; Secure"}, {"https://a.x.com", "b=4; Domain=x.com; Max-Age=9"}, {"https://a.x.com", "a=5"}, {"https://a.x.com", "y=6; Domain=a.x.com"}} {
		isSet(t, j, one[0], one[1], api.OK)
	}
	isGot(t, j, "https://a.x.com", "z=1; y=2; z=3; b=4; a=5; y=6")
	isGot(t, j, "http://a.x.com", "z=1; y=2; b=4; a=5; y=6")
	isGot(t, j, "https://b.x.com", "y=2; b=4")
	isGot(t, j, "https://x.com", "y=2; b=4")
	isGot(t, j, "https://b.a.x.com", "y=2; z=3; b=4; y=6")
}

func TestGetManyInOrder(t *testing.T) {
	j := jar.New(table())
	var want []string
	for i := range 50 {
		isSet(t, j, "http://x.com", strconv.Itoa(i)+"=v; Path=/"+of(i*7%10, "p/"), api.OK)
	}
	for length := 9; length >= 0; length-- {
		for i := range 50 {
			if i*7%10 == length {
				want = append(want, strconv.Itoa(i)+"=v")
			}
		}
	}
	for range 3 {
		isGot(t, j, "http://x.com/"+of(20, "p/"), strings.Join(want, "; "))
	}
}

func TestGetOfEmptyNames(t *testing.T) {
	for _, one := range [][2]string{
		{"a=b", "a=b"}, {"a=", "a="}, {"b", "b"}, {"=b", "b"}, {"==b", "=b"}, {"=a=b", "a=b"}, {"a=b=c", "a=b=c"}, {"a==", "a=="}, {" a = b ", "a=b"}, {"a b=c d", "a b=c d"}, {"\u00e4=\xff", "\u00e4=\xff"}, {"a=\"b;c\"", "a=\"b"}, {of(2048, "n") + "=" + of(2048, "v"), of(2048, "n") + "=" + of(2048, "v")},
	} {
		j := jar.New(table())
		isSet(t, j, "http://x.com", one[0], api.OK)
		isGot(t, j, "http://x.com", one[1])
		isSet(t, j, "http://x.com", "z=; Path=/p", api.OK)
		isSet(t, j, "http://x.com", "y; Path=/p/q", api.OK)
		isGot(t, j, "http://x.com/p/q", "y; z=; "+one[1])
	}
}

func TestGetWhatIsSent(t *testing.T) {
	j := jar.New(table())
	for _, text := range []string{"o=1", "d=1; Domain=x.com", "s=1; Secure", "n=1; Secure; SameSite=None", "l=1; SameSite=Lax", "t=1; SameSite=Strict", "h=1; HttpOnly"} {
		isSet(t, j, "https://x.com", text, api.OK)
	}
	for _, one := range []struct {
		u     string
		cross int
		want  string
	}{
		{"https://x.com", api.CrossSame, "o=1; d=1; s=1; n=1; l=1; t=1; h=1"},
		{"https://x.com", api.CrossTop, "o=1; d=1; s=1; n=1; l=1; h=1"},
		{"https://x.com", api.CrossSub, "n=1"},
		{"http://x.com", api.CrossSame, "o=1; d=1; l=1; t=1; h=1"},
		{"http://x.com", api.CrossTop, "o=1; d=1; l=1; h=1"},
		{"http://x.com", api.CrossSub, ""},
		{"https://a.x.com", api.CrossSame, "d=1"}, {"https://a.x.com", api.CrossSub, ""},
		{"https://com", api.CrossSame, ""}, {"https://y.com", api.CrossSame, ""}, {"https://ax.com", api.CrossSame, ""}, {"https://1.2.3.4", api.CrossSame, ""},
	} {
		r := to(t, one.u)
		r.Cross = one.cross
		isGotOf(t, j, r, one.want)
	}
}

// Just what was sent is used, at the time that it is.
func TestGetUses(t *testing.T) {
	j := jar.New(table())
	isTicked(t, j, 10, api.OK)
	for _, text := range []string{"a=1; Path=/p", "b=1; Secure", "c=1; SameSite=Strict", "d=1; Domain=x.com", "e=1; Path=/q"} {
		isSet(t, j, "https://x.com", text, api.OK)
	}
	want := map[string]int64{"a": 10, "b": 10, "c": 10, "d": 10, "e": 10}
	for _, one := range []struct {
		u     string
		cross int
		used  string
	}{
		{"http://x.com", 0, "cd"}, {"https://x.com", 0, "bcd"}, {"https://x.com/p", 1, "abd"}, {"https://a.x.com", 0, "d"}, {"https://y.com", 0, ""}, {"https://x.com", 2, ""}, {"https://x.com", 3, ""}, {"https://x.com/q/r", 0, "bcde"}, {"http://x.com/p/", 1, "ad"},
	} {
		isTicked(t, j, 3, api.OK)
		r := to(t, one.u)
		r.Cross = one.cross
		isGotOf(t, j, r, pairs(one.u, one.used))
		for _, name := range strings.Split(one.used, "") {
			want[name] = j.Now()
		}
		for _, name := range []string{"a", "b", "c", "d", "e"} {
			isUsed(t, j, name, want[name])
			if c := find(t, j, name); c.Born != 10 {
				t.Error(shown(c))
			}
		}
	}
}

// pairs: what is sent of cookies of these names; a and e, of a longer path,
// go ahead.
func pairs(u, names string) string {
	var all []string
	for _, name := range strings.Split(names, "") {
		if pair := name + "=1"; name == "e" {
			all = slices.Insert(all, 0, pair)
		} else {
			all = append(all, pair)
		}
	}
	return strings.Join(all, "; ")
}

// Behind a Get all is there as it was, but for when it was used.
func TestGetChangesNothingElse(t *testing.T) {
	j := full(t)
	before := j.Cookies()
	for range 3 {
		isGot(t, j, "https://x.com", "s=1; a=1")
	}
	for i := range before {
		before[i].Used = 7
	}
	if l := j.Cookies(); !slices.Equal(l, before) {
		t.Errorf("%s, not %s", shown(l), shown(before))
	}
	isNow(t, j, 7)
	isSet(t, j, "http://x.com", "z=1", api.OK)
	isThere(t, j, "s=1 1", "a=1 2", "z=1 3")
}

// Nothing goes with requests that can't be, and by them nothing is used.
func TestGetOfWrongRequests(t *testing.T) {
	j := full(t)
	good := to(t, "https://x.com")
	wrong := []api.Request{{}, {Secure: true}, {Secure: true, Path: "/"}}
	for _, h := range sample.WrongHosts() {
		wrong = append(wrong, api.Request{Secure: true, Host: h, Path: "/"})
	}
	for _, path := range []string{"", "p", "p/", " /", "?", "\x00", "\xff"} {
		wrong = append(wrong, api.Request{Secure: true, Host: good.Host, Path: path})
	}
	for _, cross := range []int{-1, 3, 1 << 32, 1<<32 + 1, math.MaxInt, math.MinInt} {
		wrong = append(wrong, api.Request{Secure: true, Host: good.Host, Path: "/", Cross: cross})
	}
	for _, r := range wrong {
		isGotOf(t, j, r, "")
	}
	isUnchanged(t, j)
}

// A path need be no more than one to which the cookies' paths belong.
func TestGetOfOddPaths(t *testing.T) {
	j := jar.New(table())
	isSet(t, j, "http://x.com", "a=1; Path=/x y?z#\u00e4", api.OK)
	isSet(t, j, "http://x.com", "b=1", api.OK)
	r := to(t, "http://x.com")
	for path, want := range map[string]string{"/x y?z#\u00e4": "a=1; b=1", "/x y?z#\u00e4/": "a=1; b=1", "/x y?z#": "b=1", "/\x00": "b=1", "/" + of(1<<16, "p"): "b=1"} {
		r.Path = path
		isGotOf(t, j, r, want)
	}
}

func TestExamples(t *testing.T) {
	j := jar.New(suffix.New())
	isSet(t, j, "http://h/x/y", "a=1", api.OK)
	isSet(t, j, "http://h/x/y", "b=2; Path=/x", api.OK)
	isGot(t, j, "http://h/x/z", "a=1; b=2")
}

// A second reading of the chapter

// entry is a cookie, and the site to which it counts.
type entry struct {
	api.Cookie
	site string
}

// book is a jar once more, as the chapter's words say: all that was put, by
// rising Seq, what has ended too. It is there no more wherever it is asked.
type book struct {
	table     *suffix.Table
	now       int64
	last      int
	all       []entry
	overlaid  int
	ofASite   int
	ofAll     int
	longestOf int
}

func (b *book) there(counts func(e entry) bool) []int {
	var at []int
	for i, e := range b.all {
		if e.Expires > b.now && counts(e) {
			at = append(at, i)
		}
	}
	return at
}

func whichever(entry) bool { return true }

func (b *book) cookies() []api.Cookie {
	var all []api.Cookie
	for _, i := range b.there(whichever) {
		all = append(all, b.all[i].Cookie)
	}
	return all
}

// kin: does one host belong to the other one, either way round?
func kin(a, b api.Host) bool {
	names := a.Kind == api.HostName && b.Kind == api.HostName
	return a == b || names && (strings.HasSuffix(a.Name, "."+b.Name) || strings.HasSuffix(b.Name, "."+a.Name))
}

func (b *book) set(u api.URL, text string) api.Errno {
	if !url.Right(u) {
		return api.ErrURL
	}
	h, e := header.Parse(text)
	if e != api.OK {
		return e
	}
	c, e := admit.Take(b.table, u, h, b.now)
	if e != api.OK {
		return e
	}
	beside := b.there(func(e entry) bool {
		below := c.Path == e.Path || strings.HasPrefix(c.Path, strings.TrimSuffix(e.Path, "/")+"/")
		return e.Secure && e.Name == c.Name && kin(e.Host, c.Host) && below
	})
	if !u.Secure && len(beside) > 0 {
		b.overlaid++
		return api.ErrOverlay
	}
	b.put(c)
	return api.OK
}

func (b *book) put(c api.Cookie) {
	site := b.table.Site(c.Host)
	if site == "" {
		site = host.Text(c.Host)
	}
	if at := b.there(func(e entry) bool { return match.Key(e.Cookie, c) }); len(at) > 0 {
		c.Born, c.Seq = b.all[at[0]].Born, b.all[at[0]].Seq
		b.all[at[0]] = entry{c, site}
	} else {
		b.last++
		c.Seq = b.last
		b.all = append(b.all, entry{c, site})
	}
	b.ofASite += b.trim(50, func(e entry) bool { return e.site == site })
	b.ofAll += b.trim(3000, whichever)
}

// trim drops what was used first, till there are at most so many: how many
// went. Numbers rise along the list, so the first one of like ones goes.
func (b *book) trim(most int, counts func(e entry) bool) int {
	gone := 0
	for {
		at := b.there(counts)
		if len(at) <= most {
			return gone
		}
		first := at[0]
		for _, i := range at {
			if b.all[i].Used < b.all[first].Used {
				first = i
			}
		}
		b.all = slices.Delete(b.all, first, first+1)
		gone++
	}
}

func (b *book) get(r api.Request) string {
	at := b.there(func(e entry) bool { return match.Sends(e.Cookie, r, b.now) })
	slices.SortStableFunc(at, func(i, k int) int { return len(b.all[k].Path) - len(b.all[i].Path) })
	b.longestOf = max(b.longestOf, len(at))
	var said []string
	for _, i := range at {
		b.all[i].Used = b.now
		said = append(said, strings.TrimPrefix(b.all[i].Name+"="+b.all[i].Value, map[bool]string{true: "="}[b.all[i].Name == ""]))
	}
	return strings.Join(said, "; ")
}

func (b *book) tick(n int64) api.Errno {
	if n < 0 || n > 1<<40 || b.now+n > 1<<40 {
		return api.ErrClock
	}
	b.now += n
	return api.OK
}

func (b *book) clear() { b.all, b.last = nil, 0 }

// pick: one of a list.
func pick(r *rand.Rand, list ...string) string { return list[r.IntN(len(list))] }

// world says what a row of steps is made of; so many of 600 steps are Clear,
// Tick or Get, and the others Set.
type world struct {
	schemes, hosts, paths []string
	names, domains        []string
	risks, ends           []string
	ticks                 []int64
	clears, passes, looks int
}

var small = world{
	schemes: []string{"http://", "https://"},
	hosts:   []string{"x.com", "a.x.com", "b.a.x.com", "c.x.com", "y.com", "com", "1.2.3.4", "[::1]", "a.b.ck"},
	paths:   []string{"/", "/p", "/p/q", "/p/q/r", "/pq"},
	names:   []string{"", "a", "b", "__Secure-a", "__Host-a"},
	domains: []string{"", "", "; Domain=x.com", "; Domain=a.x.com", "; Domain=com"},
	risks:   []string{"", "", "; Secure", "; Secure; SameSite=None", "; SameSite=Strict", "; HttpOnly"},
	ends:    []string{"", "", "", "; Max-Age=0", "; Max-Age=2", "; Max-Age=9", "; Expires=1 jan 1970 0:0:20"},
	ticks:   []int64{0, 0, 1, 1, 2, 5, -1, 1<<40 + 1, math.MaxInt64, math.MinInt64},
	clears:  6, passes: 100, looks: 150,
}

// address: any URL of a world, some of them wrong.
func (w world) address(r *rand.Rand) api.URL {
	u, _ := url.Parse(pick(r, w.schemes...) + pick(r, w.hosts...) + pick(r, w.paths...))
	if r.IntN(40) == 0 {
		u.Port = 0
	}
	return u
}

// text: any header of a world, some of them wrong.
func (w world) text(r *rand.Rand) string {
	s := pick(r, w.names...) + "=" + strconv.Itoa(r.IntN(1000)) + pick(r, w.domains...) + pick(r, w.risks...) + pick(r, w.ends...)
	if r.IntN(2) == 0 {
		s += "; Path=" + pick(r, "/", "/p", "/p/q", "/p/")
	}
	if r.IntN(60) == 0 {
		s += "\x00"
	}
	return s
}

// step does one thing to both, and says what both answered.
func (w world) step(r *rand.Rand, j *jar.Jar, b *book) (string, string) {
	u := w.address(r)
	switch n := r.IntN(600); {
	case n < w.clears:
		j.Clear()
		b.clear()
		return "", ""
	case n < w.clears+w.passes:
		n := w.ticks[r.IntN(len(w.ticks))]
		return fmt.Sprint("Tick ", j.Tick(n)), fmt.Sprint("Tick ", b.tick(n))
	case n < w.clears+w.passes+w.looks:
		q := api.Request{Secure: u.Secure, Host: u.Host, Path: u.Path, Cross: r.IntN(3)}
		return fmt.Sprint("Get ", j.Get(q)), fmt.Sprint("Get ", b.get(q))
	}
	s := w.text(r)
	return fmt.Sprint("Set ", s, j.Set(u, s)), fmt.Sprint("Set ", s, b.set(u, s))
}

// walk holds a jar against a book, step by step; all cookies each so many.
func (w world) walk(t *testing.T, seed uint64, steps, each int) *book {
	t.Helper()
	r := rand.New(rand.NewPCG(seed, 12))
	x := table()
	j, b := jar.New(x), &book{table: x}
	for i := range steps {
		got, want := w.step(r, j, b)
		if got != want {
			t.Fatalf("%d, step %d: %.600s, not %.600s", seed, i, got, want)
		}
		if j.Now() != b.now {
			t.Fatalf("%d, behind step %d: the time %d, not %d", seed, i, j.Now(), b.now)
		}
		if i%each == 0 && !slices.Equal(j.Cookies(), b.cookies()) {
			t.Fatalf("%d, behind step %d: %v\nnot %v", seed, i, j.Cookies(), b.cookies())
		}
	}
	return b
}

func TestManySteps(t *testing.T) {
	overlaid, longest := 0, 0
	for seed := range uint64(60) {
		b := small.walk(t, seed, 300, 1)
		overlaid += b.overlaid
		longest = max(longest, b.longestOf)
	}
	if overlaid < 100 || longest < 8 {
		t.Errorf("%d are overlaid, %d sent at once", overlaid, longest)
	}
}

func TestManyStepsOfFullSites(t *testing.T) {
	w := small
	w.hosts, w.names, w.clears = []string{"x.com", "a.x.com", "com", "1.2.3.4"}, numbers(0, 40), 0
	w.ends = []string{"", "", "", "", "", "; Max-Age=0", "; Max-Age=20"}
	gone := 0
	for seed := range uint64(10) {
		gone += w.walk(t, seed, 1500, 1).ofASite
	}
	if gone < 500 {
		t.Errorf("%d went", gone)
	}
}

func TestManyStepsOfAFullJar(t *testing.T) {
	w := small
	w.schemes, w.hosts, w.names, w.domains = []string{"http://", "https://", "https://", "https://"}, nil, numbers(0, 60), []string{""}
	for i := range 64 {
		w.hosts = append(w.hosts, "s"+strconv.Itoa(i)+".com")
	}
	w.risks, w.ends = []string{"", "", "", "; Secure"}, []string{"", "", "", "", "; Max-Age=500"}
	w.clears, w.passes, w.looks = 0, 30, 30
	if b := w.walk(t, 1, 7000, 100); b.ofAll < 100 || b.ofASite < 100 || b.overlaid < 10 {
		t.Errorf("%d went of all, %d of a site, %d were overlaid", b.ofAll, b.ofASite, b.overlaid)
	}
}

// P1, P2

// The same steps have the same answers, in each jar.
func TestAnswersHangOnStepsAlone(t *testing.T) {
	run := func() string {
		r := rand.New(rand.NewPCG(7, 7))
		x := table()
		j, b := jar.New(x), &book{table: x}
		said := ""
		for range 300 {
			got, _ := small.step(r, j, b)
			said += got + state(j)
		}
		return said
	}
	first := run()
	for range 5 {
		if run() != first {
			t.Error("two answers")
		}
	}
}

// A table that many jars are made of tells what it told.
func TestTableStays(t *testing.T) {
	x := table()
	said := func() string {
		all := ""
		for _, s := range []string{"a.x.com", "com", "a.ck", "www.ck", "a.co.uk", "1.2.3.4"} {
			h, _ := host.Parse(s)
			all += fmt.Sprint(x.Suffix(h), x.Public(h), x.Site(h))
		}
		return all
	}
	first := said()
	r := rand.New(rand.NewPCG(3, 3))
	for range 5 {
		j, b := jar.New(x), &book{table: x}
		for range 100 {
			small.step(r, j, b)
		}
	}
	if said() != first {
		t.Error("two answers")
	}
}

// All headers of a few pieces, one behind the other in one jar.
func TestAllHeaders(t *testing.T) {
	x := table()
	j, b := jar.New(x), &book{table: x}
	for i, s := range sample.Texts(4, "a", "=", "; Secure", "; Domain=x.com", "; Path=/", ";Max-Age=0", "\x00", " ") {
		u := at(t, []string{"https://a.x.com/p/q", "http://x.com", "http://com/p/"}[i%3])
		if got, want := j.Set(u, s), b.set(u, s); got != want {
			t.Errorf("Set(%q) = %d, not %d", s, got, want)
		}
	}
	if l := j.Cookies(); !slices.Equal(l, b.cookies()) || len(l) < 5 {
		t.Errorf("%s, not %s", shown(l), shown(b.cookies()))
	}
}

func TestGreatTexts(t *testing.T) {
	const size = 1 << 24
	j := full(t)
	for unit, want := range map[string]api.Errno{"a": api.ErrSize, ";": api.ErrEmpty, "=": api.ErrSize, "\x00": api.ErrControl, " ": api.ErrEmpty, "\xff": api.ErrSize} {
		isSet(t, j, "http://x.com", of(size, unit), want)
		u := at(t, "http://x.com")
		u.Path += of(size, unit)
		isSetAt(t, j, u, "a=2", api.ErrURL)
		u.Host.Name = of(size, unit)
		isSetAt(t, j, u, of(size, unit), api.ErrURL)
		isGotOf(t, j, api.Request{Host: u.Host, Path: u.Path}, "")
	}
	isUnchanged(t, j)
	isSet(t, j, "http://x.com", "y=1; Path=/p; x="+of(size, "a")+of(size, ";"), api.OK)
	isGot(t, j, "http://x.com/p", "y=1; a=1; z=1")
}

// Of any numbers a call still answers.
func TestAnyNumbers(t *testing.T) {
	all := []int64{0, 1, -1, 2, 3, 80, 65535, 65536, api.MaxClock - 4, api.MaxClock, api.MaxClock + 1, math.MaxInt64, math.MinInt64}
	x := table()
	j, b := jar.New(x), &book{table: x}
	for _, n := range all {
		for _, m := range all {
			u := at(t, "https://x.com")
			u.Host.Kind, u.Port = int(n), int(m)
			r := api.Request{Host: u.Host, Path: "/", Cross: int(m)}
			if got, want := fmt.Sprint(j.Set(u, "a=1"), j.Get(r)), fmt.Sprint(b.set(u, "a=1"), b.get(r)); got != want {
				t.Errorf("%d, %d: %s, not %s", n, m, got, want)
			}
			if got, want := j.Tick(n^m), b.tick(n^m); got != want || j.Now() != b.now {
				t.Errorf("Tick(%d) = %d, not %d", n^m, got, want)
			}
		}
	}
}
