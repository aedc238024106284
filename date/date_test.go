package date_test

import (
	"fmt"
	"math"
	"regexp"
	"strconv"
	"strings"
	"testing"
	"time"

	"cracknel/date"
	"cracknel/sample"
)

// The ends of the moments that have dates.
const (
	firstMoment = -11644473600
	lastMoment  = 253402300799
)

// dateText is how the library writes what Text promises.
const dateText = "Mon, 02 Jan 2006 15:04:05 GMT"

// parting are the bytes that part tokens.
const parting = "\t !\"#$%&'()*+,-./;<=>?@[\\]^_`{|}~"

func isDate(t *testing.T, year, month, day int, want int64) {
	t.Helper()
	if n, ok := date.Days(year, month, day); !ok || n != want {
		t.Errorf("Days(%d, %d, %d) = %d, %v, not %d", year, month, day, n, ok, want)
	}
	if y, m, d, ok := date.Civil(want); !ok || y != year || m != month || d != day {
		t.Errorf("Civil(%d) = %d, %d, %d, %v, not %d-%d-%d", want, y, m, d, ok, year, month, day)
	}
}

func isNoDate(t *testing.T, year, month, day int) {
	t.Helper()
	if n, ok := date.Days(year, month, day); ok || n != 0 {
		t.Errorf("Days(%d, %d, %d) = %d, %v", year, month, day, n, ok)
	}
}

func isNoDay(t *testing.T, days int64) {
	t.Helper()
	if y, m, d, ok := date.Civil(days); ok || y != 0 || m != 0 || d != 0 {
		t.Errorf("Civil(%d) = %d, %d, %d, %v", days, y, m, d, ok)
	}
}

func is(t *testing.T, s string, want int64) {
	t.Helper()
	if n, ok := date.Cookie(s); !ok || n != want {
		t.Errorf("Cookie(%.100q) = %d, %v, not %d", s, n, ok, want)
	}
}

func isNone(t *testing.T, s string) {
	t.Helper()
	if n, ok := date.Cookie(s); ok || n != 0 {
		t.Errorf("Cookie(%.100q) = %d, %v", s, n, ok)
	}
}

func isText(t *testing.T, moment int64, want string) {
	t.Helper()
	if got := date.Text(moment); got != want {
		t.Errorf("Text(%d) = %q, not %q", moment, got, want)
	}
}

// at: the moment of a date that the library knows, too.
func at(year, month, day, hour, minute, second int) int64 {
	return time.Date(year, time.Month(month), day, hour, minute, second, 0, time.UTC).Unix()
}

// isTold: is this text the date, at 0:0:0?
func isTold(t *testing.T, s string, year, month, day int) {
	t.Helper()
	is(t, s, at(year, month, day, 0, 0, 0))
}

// P7.1

func TestDays(t *testing.T) {
	isDate(t, 1970, 1, 1, 0)
	isDate(t, 1970, 1, 2, 1)
	isDate(t, 1969, 12, 31, -1)
	isDate(t, 1970, 2, 1, 31)
	isDate(t, 1970, 12, 31, 364)
	isDate(t, 1971, 1, 1, 365)
	isDate(t, 1972, 2, 29, 789)
	isDate(t, 2000, 2, 29, 11016)
	isDate(t, 2000, 3, 1, 11017)
	isDate(t, 1900, 2, 28, -25509)
	isDate(t, 1900, 3, 1, -25508)
	isDate(t, 1601, 1, 1, -134774)
	isDate(t, 9999, 12, 31, 2932896)
}

// All years, months and days around those that are dates: what the library
// tells of them, and one day more from each date to the next one.
func TestDaysOfAllDates(t *testing.T) {
	next := int64(-134774)
	for year := 1598; year <= 10002; year++ {
		for month := -1; month <= 14; month++ {
			for day := -1; day <= 33; day++ {
				y, m, d := time.Date(year, time.Month(month), day, 0, 0, 0, 0, time.UTC).Date()
				if y != year || int(m) != month || d != day || year < 1601 || year > 9999 {
					isNoDate(t, year, month, day)
					continue
				}
				isDate(t, year, month, day, next)
				next++
			}
		}
		if t.Failed() {
			t.FailNow()
		}
	}
	if next != 2932897 {
		t.Errorf("the day behind the last date is %d", next)
	}
}

func TestLeapYears(t *testing.T) {
	for year, want := range map[int]bool{
		1601: false, 1604: true, 1700: false, 1800: false, 1900: false, 1970: false, 1972: true, 1999: false, 2000: true,
		2001: false, 2004: true, 2100: false, 2400: true, 9600: true, 9900: false, 9996: true, 9999: false,
	} {
		if _, ok := date.Days(year, 2, 29); ok != want {
			t.Errorf("2-29 of %d: %v", year, ok)
		}
		isNoDate(t, year, 2, 30)
	}
}

func TestNoDates(t *testing.T) {
	numbers := []int{math.MinInt, math.MinInt + 1, -1 << 32, -1970, -1, 0, 32, 1600, 10000, 1 << 31, 1<<32 + 1, 1<<32 + 1970, 1<<62 + 1, math.MaxInt - 1, math.MaxInt}
	for _, a := range numbers {
		isNoDate(t, a, 1, 1)
		isNoDate(t, 1970, a, 1)
		isNoDate(t, 1970, 1, a)
		isNoDate(t, 2000, 2, a)
		for _, b := range numbers {
			isNoDate(t, 1970, a, b)
			isNoDate(t, a, 1, b)
			isNoDate(t, a, b, 1)
			for _, c := range numbers {
				isNoDate(t, a, b, c)
			}
		}
	}
	for month := 1; month <= 12; month++ {
		isNoDate(t, 1600, month, 1)
		isNoDate(t, 10000, month, 1)
		isNoDate(t, 1999, month, 0)
		isNoDate(t, 1999, month, 32)
	}
	isNoDate(t, 1999, 13, 1)
	for _, month := range []int{4, 6, 9, 11} {
		isNoDate(t, 1999, month, 31)
	}
}

func TestDaysThatHaveNoDate(t *testing.T) {
	for _, days := range []int64{-134775, -134776, 2932897, 2932898, -719163, -1 << 32, 1 << 32, -1 << 62, 1 << 62, math.MinInt64, math.MinInt64 + 1, math.MaxInt64, math.MaxInt64 - 1} {
		isNoDay(t, days)
	}
	for shift := 22; shift < 64; shift++ {
		isNoDay(t, 1<<shift)
		isNoDay(t, -1<<shift)
		isNoDay(t, 1<<shift+1)
	}
}

// P7.2

func TestExamples(t *testing.T) {
	is(t, "1-feb-70 0:0:9", 2678409)
}

func TestCookie(t *testing.T) {
	for s, want := range map[string]int64{
		"Thu, 01 Jan 1970 00:00:00 GMT":         0,
		"Sun, 06 Nov 1994 08:49:37 GMT":         784111777,
		"Sunday, 06-Nov-94 08:49:37 GMT":        784111777,
		"Sun Nov  6 08:49:37 1994":              784111777,
		"6;NOVEMBER;1994;8:49:37":               784111777,
		"Wed, 31 Dec 1969 23:59:59 GMT":         -1,
		"Mon, 01 Jan 1601 00:00:00 GMT":         firstMoment,
		"Fri, 31 Dec 9999 23:59:59 GMT":         lastMoment,
		"Tue, 29 Feb 2000 12:00:00 +0100":       951825600,
		"0:0:0 1 jan 1970":                      0,
		"1 0:0:0 jan 1970":                      0,
		"1 jan 1970 23:59:59":                   86399,
		"\t\t ,1;;jan--1970//0:0:0{}":           0,
		"what 1 is jan this 1970 here 0:0:0 at": 0,
		"1 jan 1970 1:2:3":                      3723,
		"1 jan 1970 01:02:03":                   3723,
		"1 jan 1970 10:20:30":                   37230,
		"expires 1 jan 1970, 0:1:0, 2 feb 1980": 60,
	} {
		is(t, s, want)
	}
}

func TestNoCookieDates(t *testing.T) {
	for _, s := range []string{
		"", " ", "1", "jan", "1970", "0:0:0", ";;;", "never",
		"1 jan 1970", "0:0:0 jan 1970", "0:0:0 1 1970", "0:0:0 1 jan",
		"0 jan 1970 0:0:0", "00 jan 1970 0:0:0", "32 jan 1970 0:0:0", "99 jan 1970 0:0:0", "29 feb 1970 0:0:0", "29 feb 1900 0:0:0", "30 feb 2000 0:0:0", "31 apr 1970 0:0:0", "31 jun 1970 0:0:0", "31 sep 1970 0:0:0", "31 nov 1970 0:0:0",
		"1 jan 1600 0:0:0", "1 jan 0 0:0:0", "1 jan 100 0:0:0", "1 jan 999 0:0:0", "1 jan 1000 0:0:0", "1 jan 10000 0:0:0",
		"24:0:0 1 jan 1970", "0:60:0 1 jan 1970", "0:0:60 1 jan 1970", "99:99:99 1 jan 1970", "23:59:60 31 dec 1970",
		// What was told first counts, even if it is no date.
		"24:0:0 0:0:0 1 jan 1970", "32 1 jan 1970 0:0:0", "0 1 jan 1970 0:0:0", "1 jan 1600 1970 0:0:0", "31 feb jan 1970 0:0:0",
		"1 j\u00e4n 1970 0:0:0", "\uff11 jan 1970 0:0:0", "1 jan \u0661\u0669\u0667\u0660 0:0:0", "1 jan -1970a0:0:0", "-1jan19700:0:0",
	} {
		isNone(t, s)
	}
}

func TestPartingBytes(t *testing.T) {
	if len(parting) != 1+16+6+6+4 {
		t.Fatal("the chapter counts others")
	}
	for c := range 256 {
		s := string([]byte{byte(c)})
		// If it parts nothing, all is one token, which tells a day at most.
		if line := strings.Join([]string{"1", "jan", "1970", "0:0:0"}, s); strings.Contains(parting, s) {
			is(t, line, 0)
			is(t, s+s+strings.Join([]string{"1", "jan", "1970", "0:0:0", ""}, s+s+s), 0)
		} else {
			isNone(t, line)
		}
	}
}

// Behind the digits of a time, a day and a year any byte may stand that is no
// digit, and behind the name of a month any byte.
func TestBytesBehind(t *testing.T) {
	for c := range 256 {
		s := string([]byte{byte(c)})
		digit := c >= '0' && c <= '9'
		isTold(t, "1 jan"+s+" 1970 0:0:0", 1970, 1, 1)
		isTold(t, "1 jan"+s+"feb 1970 0:0:0", 1970, 1, 1)
		for _, more := range []string{"", "x", ":", "\xff", "1"} {
			if more == "1" && (digit || strings.Contains(parting, s)) {
				continue
			}
			if digit {
				isNone(t, "11"+s+more+" jan 1970 0:0:0")
				isNone(t, "1 jan 1970"+s+more+" 0:0:0")
				isNone(t, "1 jan 1970 0:0:00"+s+more)
				continue
			}
			isTold(t, "11"+s+more+" jan 1970 0:0:0", 1970, 1, 11)
			isTold(t, "1 jan 1970"+s+more+" 0:0:0", 1970, 1, 1)
			isTold(t, "1 jan 1970 0:0:00"+s+more, 1970, 1, 1)
		}
	}
}

// Ahead of what a token begins with no byte may stand that parts nothing.
func TestBytesAhead(t *testing.T) {
	for c := range 256 {
		s := string([]byte{byte(c)})
		if strings.Contains(parting, s) {
			isTold(t, s+"11 "+s+"jan "+s+"1970 "+s+"00:0:0", 1970, 1, 11)
			continue
		}
		isNone(t, s+"11 jan 1970 00:0:0")
		isNone(t, "11 "+s+"jan 1970 00:0:0")
		isNone(t, "11 jan "+s+"1970 00:0:0")
		isNone(t, "11 jan 1970 "+s+"00:0:0")
	}
}

func TestTimes(t *testing.T) {
	for hour := range 100 {
		for minute := range 100 {
			second := (hour*7 + minute*11) % 100
			right := hour < 24 && minute < 60 && second < 60
			for _, form := range []string{"%d:%d:%d", "%02d:%02d:%02d", "%02d:%d:%02d", "%d:%02d:%d"} {
				s := "2 jan 1970 " + fmt.Sprintf(form, hour, minute, second)
				if right {
					is(t, s, int64(86400+hour*3600+minute*60+second))
				} else {
					isNone(t, s)
				}
			}
		}
	}
	for _, s := range []string{
		"0", "0:0", "0:0:", "0::0", ":0:0", ":0:0:0", "::", "0:0:x", "0:x:0", "x:0:0", "0:0x:0", "0x:0:0", "0.0.0", "0;0;0",
		"000:0:0", "0:000:0", "0:0:000", "0:0:0000", "0:0: 0", "0: 0:0", "0 :0:0", "0:0:+", "0::0:0", "0:0::0", "0:-0:0",
	} {
		isNone(t, "1 jan 1970 "+s)
		isNone(t, s+"\t1 jan 1970")
	}
	for _, s := range []string{"0:0:0", "00:0:00", "0:0:0:0", "0:0:0.5", "0:0:0:", "0:0:0Z", "0:0:00x1", "0:0:0\xff", "-0:0:0", "-0:0:0:", "+00:00:00"} {
		is(t, "1 jan 1970 "+s, 0)
	}
}

func TestMonths(t *testing.T) {
	for i, name := range []string{"jan", "feb", "mar", "apr", "may", "jun", "jul", "aug", "sep", "oct", "nov", "dec"} {
		// Each row of small letters and great ones.
		for bits := range 8 {
			letters := []byte(name)
			for at := range letters {
				if bits>>at&1 == 1 {
					letters[at] -= 32
				}
			}
			for _, more := range []string{"", "uary", "1", "\x00", "\xff", ":", "jan", "DEC"} {
				isTold(t, "2 "+string(letters)+more+" 1999 0:0:0", 1999, i+1, 2)
			}
		}
		for c := range 256 {
			for at := range 3 {
				letters := []byte(name)
				letters[at] = byte(c)
				s := "2 " + string(letters) + " 1999 0:0:0"
				if month := monthRead(string(letters)); month > 0 {
					isTold(t, s, 1999, month, 2)
				} else {
					isNone(t, s)
				}
			}
		}
		isNone(t, "2 "+name[:2]+" 1999 0:0:0")
		isNone(t, "2 "+name[:1]+" 1999 0:0:0")
		isNone(t, "2 "+name[1:]+" 1999 0:0:0")
		isNone(t, "2 x"+name+" 1999 0:0:0")
		isNone(t, "2"+name+" 1999 0:0:0")
		isNone(t, "2 "+name[:2]+" "+name[2:]+" 1999 0:0:0")
	}
	for _, name := range []string{"", "0", "01", "1", "12", "13", "mai", "okt", "dez", "sun", "mon", "gmt", "\u017fep", "\u212aan"} {
		isNone(t, "2 "+name+" 1999 0:0:0")
	}
}

func TestYears(t *testing.T) {
	for number := range 10000 {
		for size := 1; size <= 6; size++ {
			digits := fmt.Sprintf("%0*d", size, number)
			year := number
			if number < 70 {
				year += 2000
			} else if number < 100 {
				year += 1900
			}
			s := "3 feb " + digits + " 0:0:0"
			if len(digits) >= 2 && len(digits) <= 4 && year >= 1601 {
				isTold(t, s, year, 2, 3)
			} else {
				isNone(t, s)
			}
		}
	}
	for s, year := range map[string]int{"00": 2000, "69": 2069, "70": 1970, "99": 1999, "000": 2000, "0000": 2000, "069": 2069, "0070": 1970, "0099": 1999, "1601": 1601, "9999": 9999} {
		isTold(t, "3 feb "+s+" 0:0:0", year, 2, 3)
	}
	for _, s := range []string{"0", "9", "100", "0100", "999", "1600", "00070", "01970", "10000", "19700", strings.Repeat("0", 70), strings.Repeat("1970", 1000), "4294969266", "18446744073709553586"} {
		isNone(t, "3 feb "+s+" 0:0:0")
	}
}

func TestDaysOfTokens(t *testing.T) {
	for number := range 1000 {
		for size := 1; size <= 4; size++ {
			digits := fmt.Sprintf("%0*d", size, number)
			s := digits + " jan 0:0:0 2001"
			if len(digits) <= 2 && number >= 1 && number <= 31 {
				isTold(t, s, 2001, 1, number)
			} else {
				isNone(t, s)
			}
		}
	}
}

// A token is the first thing that it may be and that none ahead told; what
// was told isn't told once more.
func TestWhatATokenTells(t *testing.T) {
	for s, want := range map[string][3]int{
		"10 11 jan 0:0:0":               {2011, 1, 10},
		"11 10 jan 0:0:0":               {2010, 1, 11},
		"10 jan 11 12 0:0:0":            {2011, 1, 10},
		"1 2 3 jan 04 0:0:0":            {2004, 1, 1},
		"1 2 jan 0:0:0 03":              {2003, 1, 1},
		"1970 1 jan 0:0:0":              {1970, 1, 1},
		"1970 1980 1 jan 0:0:0":         {1970, 1, 1},
		"970 1980 1 jan 0:0:0":          {},
		"70 1 jan 0:0:0":                {},
		"1 70 jan 0:0:0":                {1970, 1, 1},
		"jan 1 feb 1970 0:0:0":          {1970, 1, 1},
		"may march 1 1970 0:0:0":        {1970, 5, 1},
		"1 jan 1970 2 feb 1980 0:0:0":   {1970, 1, 1},
		"0:0:0 4:5:6 jan 1970":          {1970, 1, 4},
		"0:0:0 4:5:6 17:8:9 jan":        {2017, 1, 4},
		"0:0:0 4:5:6 7:8:9 1970 jan":    {1970, 1, 4},
		"0:0:0 4:5:6 7:8:9 10:1:1 jan":  {2010, 1, 4},
		"4:5 jan 1970 0:0:0":            {1970, 1, 4},
		"4:5 17:8 jan 0:0:0":            {2017, 1, 4},
		"12:30 jan 0:0:0 1970":          {1970, 1, 12},
		"0:0:000 jan 1970":              {},
		"5:0:000 jan 1970 0:0:0":        {1970, 1, 5},
		"5th of jan 1970 at 0:0:0 o":    {1970, 1, 5},
		"5jan jan 1970 0:0:0":           {1970, 1, 5},
		"5jan 6feb 1970mar 0:0:0":       {},
		"5jan 6feb 1970mar apr 0:0:0":   {1970, 4, 5},
		"5 17jan 1970mar apr 0:0:0":     {2017, 4, 5},
		"001 5 jan 0:0:0":               {2001, 1, 5},
		"001 5 jan 1970 0:0:0":          {2001, 1, 5},
		"00001 5 jan 1970 0:0:0":        {1970, 1, 5},
		"123 jan 5 1970 0:0:0":          {},
		"12345 jan 5 1970 0:0:0":        {1970, 1, 5},
		"5 jan 1970 0:0:0 1:1:1 32 feb": {1970, 1, 5},
		"0:0:0 jan jan 5 1970":          {1970, 1, 5},
		"jan:1 5 1970 0:0:0":            {1970, 1, 5},
		"gmt5 5 jan 1970 0:0:0":         {1970, 1, 5},
		"5 jan :1970 1971 0:0:0":        {1971, 1, 5},
		"5 jan 1970:1971 0:0:0":         {1970, 1, 5},
		"5 jan 1970x 1971 0:0:0":        {1970, 1, 5},
		"5 jan 19x70 1971 0:0:0":        {2019, 1, 5},
		"5 jan 9x 1971 0:0:0":           {1971, 1, 5},
	} {
		if want == [3]int{} {
			isNone(t, s)
		} else {
			isTold(t, s, want[0], want[1], want[2])
		}
	}
}

// The tokens, once more, as the chapter tells them.
var (
	timeToken = regexp.MustCompile(`^([0-9]{1,2}):([0-9]{1,2}):([0-9]{1,2})($|[^0-9])`)
	dayToken  = regexp.MustCompile(`^([0-9]{1,2})($|[^0-9])`)
	yearToken = regexp.MustCompile(`^([0-9]{2,4})($|[^0-9])`)
)

// numbersRead: the numbers that a token's groups are; none, if it isn't such.
func numbersRead(token *regexp.Regexp, s string) []int {
	groups := token.FindStringSubmatch(s)
	if groups == nil {
		return nil
	}
	var numbers []int
	for _, group := range groups[1 : len(groups)-1] {
		number, _ := strconv.Atoi(group)
		numbers = append(numbers, number)
	}
	return numbers
}

// monthRead: which month the first three bytes name; 0, if none.
func monthRead(s string) int {
	if len(s) < 3 {
		return 0
	}
	const names = "jan feb mar apr may jun jul aug sep oct nov dec "
	head := make([]byte, 3)
	for i := range head {
		head[i] = s[i]
		if s[i] >= 'A' && s[i] <= 'Z' {
			head[i] += 32
		}
		if head[i] < 'a' || head[i] > 'z' {
			return 0
		}
	}
	return (strings.Index(names, string(head)+" ") + 4) / 4
}

// cookieRead says once more what the chapter says of Cookie.
func cookieRead(s string) (int64, bool) {
	const month = 2
	var told [4][]int
	for _, token := range strings.FieldsFunc(s, func(c rune) bool {
		return c == 9 || c >= 32 && c < 127 && c != ':' && !(c >= '0' && c <= '9' || c >= 'A' && c <= 'Z' || c >= 'a' && c <= 'z')
	}) {
		is := [4][]int{numbersRead(timeToken, token), numbersRead(dayToken, token), nil, numbersRead(yearToken, token)}
		if m := monthRead(token); m > 0 {
			is[month] = []int{m}
		}
		for i := range is {
			if is[i] != nil && told[i] == nil {
				told[i] = is[i]
				break
			}
		}
	}
	for _, one := range told {
		if one == nil {
			return 0, false
		}
	}
	clock, d, m, y := told[0], told[1][0], told[2][0], told[3][0]
	if y < 70 {
		y += 2000
	} else if y < 100 {
		y += 1900
	}
	whole := time.Date(y, time.Month(m), d, clock[0], clock[1], clock[2], 0, time.UTC)
	if y < 1601 || whole.Day() != d || whole.Hour() != clock[0] || whole.Minute() != clock[1] || whole.Second() != clock[2] {
		return 0, false
	}
	return whole.Unix(), true
}

// manyTexts have tokens of all things, whole and broken, in all orders.
func manyTexts() []string {
	all := sample.Texts(5, "31 ", "0", "02 ", "feb ", "Apr", "1999 ", "1:2:3 ", ":", "x", "\xff-", "23:59:60")
	for _, s := range sample.Texts(3, "5", " ", "60", ":", "q", "Dec", "\t")[1:] {
		for _, row := range [][]string{
			{s, " 1 jan 1970 0:0:0"}, {"1", s, " jan 1970 0:0:0"}, {"1 ", s, " jan 1970 0:0:0"}, {"1 ", s, "1970 0:0:0"}, {"1 jan ", s, " 1970 0:0:0"},
			{"1 jan ", s, " 0:0:0"}, {"1 jan 19", s, " 0:0:0"}, {"1 jan 1970 ", s, ":0:0"}, {"1 jan 1970 0", s, "0:0"}, {"1 jan 1970 0:0:", s}, {"1 jan 1970 ", s}, {"1:2:3 ", s, " jan 1970"}, {"1 jan ", s, " 1:2:3 1970"},
		} {
			all = append(all, strings.Join(row, ""))
		}
	}
	return all
}

func TestManyTexts(t *testing.T) {
	right := 0
	for _, s := range manyTexts() {
		want, wantOK := cookieRead(s)
		if n, ok := date.Cookie(s); ok != wantOK || n != want {
			t.Fatalf("Cookie(%q) = %d, %v, not %d, %v", s, n, ok, want, wantOK)
		}
		if wantOK {
			right++
		}
	}
	if right < 1000 {
		t.Errorf("only %d of the texts are dates", right)
	}
}

// P7.3

func TestText(t *testing.T) {
	isText(t, 0, "Thu, 01 Jan 1970 00:00:00 GMT")
	isText(t, 1, "Thu, 01 Jan 1970 00:00:01 GMT")
	isText(t, 60, "Thu, 01 Jan 1970 00:01:00 GMT")
	isText(t, 3600, "Thu, 01 Jan 1970 01:00:00 GMT")
	isText(t, 86399, "Thu, 01 Jan 1970 23:59:59 GMT")
	isText(t, 86400, "Fri, 02 Jan 1970 00:00:00 GMT")
	isText(t, -1, "Wed, 31 Dec 1969 23:59:59 GMT")
	isText(t, -86399, "Wed, 31 Dec 1969 00:00:01 GMT")
	isText(t, -86400, "Wed, 31 Dec 1969 00:00:00 GMT")
	isText(t, -86401, "Tue, 30 Dec 1969 23:59:59 GMT")
	isText(t, 784111777, "Sun, 06 Nov 1994 08:49:37 GMT")
	isText(t, 951782400, "Tue, 29 Feb 2000 00:00:00 GMT")
	isText(t, firstMoment, "Mon, 01 Jan 1601 00:00:00 GMT")
	isText(t, lastMoment, "Fri, 31 Dec 9999 23:59:59 GMT")
}

func TestTextOfOthers(t *testing.T) {
	for _, moment := range []int64{
		firstMoment - 1, firstMoment - 86399, firstMoment - 86400, firstMoment - 86401, lastMoment + 1, lastMoment + 86400, lastMoment + 86401,
		-62135596800, math.MinInt64, math.MinInt64 + 1, math.MinInt64 + 86400, math.MaxInt64, math.MaxInt64 - 1, math.MaxInt64 - 86400,
	} {
		isText(t, moment, "")
	}
	for shift := 38; shift < 64; shift++ {
		isText(t, 1<<shift, "")
		isText(t, -1<<shift, "")
		isText(t, 1<<shift-1<<37+1<<62, "")
	}
}

// P7.3, P7.4

// isMoment: is the Text what the library writes, and Cookie of it the moment?
func isMoment(t *testing.T, moment int64) {
	t.Helper()
	text := time.Unix(moment, 0).UTC().Format(dateText)
	isText(t, moment, text)
	is(t, text, moment)
	is(t, date.Text(moment), moment)
	if t.Failed() {
		t.FailNow()
	}
}

func TestTextOfManyMoments(t *testing.T) {
	// Days of all dates and of all weeks, with seconds from all of a day.
	for moment := int64(firstMoment); moment <= lastMoment; moment += 6*86400 + 3607 {
		isMoment(t, moment)
	}
	for day := int64(firstMoment); day <= lastMoment; day += 17 * 86400 {
		isMoment(t, day)
		isMoment(t, day+86399)
	}
	for second := range int64(86400) {
		isMoment(t, 951782400+second)
	}
	for _, middle := range []int64{firstMoment + 100, 0, -2208988800, 951782400, lastMoment - 100} {
		for near := int64(-100); near <= 100; near++ {
			isMoment(t, middle+near)
		}
	}
}

// P1, P2

// answers writes down what all calls say of a text, and of numbers made of it.
func answers(s string) string {
	moment, ok := date.Cookie(s)
	y, m, d, civil := date.Civil(moment / 86400)
	days, isDate := date.Days(len(s)*800, len(s)*3, len(s)*7)
	return fmt.Sprint(moment, ok, y, m, d, civil, days, isDate, date.Text(moment), date.Text(int64(len(s))<<40))
}

func TestAnswersHangOnArgumentsAlone(t *testing.T) {
	all := sample.Texts(4, "1 ", "02", "feb ", "1999 ", "1:2:3 ", "70 ", "\xff", "-")
	for _, s := range sample.Unsteady(all, answers) {
		t.Errorf("%q: two answers", s)
	}
}

func TestGreatTexts(t *testing.T) {
	const size = 1 << 20
	whole := " 1 jan 1970 0:0:1 "
	for _, unit := range []string{" ", ";-", "x", "\xff", "x ", ":", ": ", "00000", "19700 ", "0:", "j", "ja ", "gmt ", "\x00", "-1:"} {
		s := strings.Repeat(unit, size/len(unit))
		isNone(t, s)
		is(t, whole+s, 1)
		is(t, whole+s+" 2 feb 1980 0:0:2", 1)
	}
	for _, unit := range []string{" ", "x", "\xff", "x ", ": ", "00000", "19700 ", "ja ", "gmt "} {
		is(t, strings.Repeat(unit, size/len(unit))+whole, 1)
	}
	for _, unit := range []string{"1 jan 1970 ", "0:0:0 ", "jan 0:0:0x ", "1 "} {
		isNone(t, strings.Repeat(unit, 1<<16)[:1<<16]+"q")
	}
}
