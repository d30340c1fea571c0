package date_test

import (
	"fmt"
	"math"
	"math/rand"
	"regexp"
	"strconv"
	"strings"
	"testing"
	"time"
	"unsafe"

	"cubby/date"
)

const (
	inDay = 86400
	last  = 253402300799
)

func wantPrint(t *testing.T, n int64, want string) {
	t.Helper()
	if got := date.Print(n); got != want {
		t.Errorf("Print(%d): %q, want %q", n, got, want)
	}
}

func wantParse(t *testing.T, s string, want int64) {
	t.Helper()
	if got, ok := date.Parse(s); got != want || !ok {
		t.Errorf("Parse(%q): %d, %v, want %d, true", s, got, ok, want)
	}
}

func wantNoTime(t *testing.T, s string) {
	t.Helper()
	if got, ok := date.Parse(s); got != 0 || ok {
		t.Errorf("Parse(%.80q): %d, %v, want 0, false", s, got, ok)
	}
}

// text answers what the library's calendar says of a time.
func text(n int64) string {
	return time.Unix(n, 0).UTC().Format("_2-Jan-2006 15:04:05 -0700")
}

// P7.1: Print

func TestPrintByHand(t *testing.T) {
	for n, want := range map[int64]string{
		0:            " 1-Jan-1970 00:00:00 +0000",
		1:            " 1-Jan-1970 00:00:01 +0000",
		59:           " 1-Jan-1970 00:00:59 +0000",
		60:           " 1-Jan-1970 00:01:00 +0000",
		3599:         " 1-Jan-1970 00:59:59 +0000",
		3600:         " 1-Jan-1970 01:00:00 +0000",
		86399:        " 1-Jan-1970 23:59:59 +0000",
		86400:        " 2-Jan-1970 00:00:00 +0000",
		8*86400 + 1:  " 9-Jan-1970 00:00:01 +0000",
		9 * 86400:    "10-Jan-1970 00:00:00 +0000",
		31*86400 - 1: "31-Jan-1970 23:59:59 +0000",
		31 * 86400:   " 1-Feb-1970 00:00:00 +0000",
		59*86400 - 1: "28-Feb-1970 23:59:59 +0000",
		59 * 86400:   " 1-Mar-1970 00:00:00 +0000",
		31536000 - 1: "31-Dec-1970 23:59:59 +0000",
		31536000:     " 1-Jan-1971 00:00:00 +0000",
		68169600:     "29-Feb-1972 00:00:00 +0000",
		837596665:    "17-Jul-1996 09:44:25 +0000",
		951782400:    "29-Feb-2000 00:00:00 +0000",
		951868800:    " 1-Mar-2000 00:00:00 +0000",
		1<<31 - 1:    "19-Jan-2038 03:14:07 +0000",
		1 << 31:      "19-Jan-2038 03:14:08 +0000",
		1<<32 - 1:    " 7-Feb-2106 06:28:15 +0000",
		1 << 32:      " 7-Feb-2106 06:28:16 +0000",
		4107542399:   "28-Feb-2100 23:59:59 +0000",
		4107542400:   " 1-Mar-2100 00:00:00 +0000",
		last - 1:     "31-Dec-9999 23:59:58 +0000",
		last:         "31-Dec-9999 23:59:59 +0000",
	} {
		wantPrint(t, n, want)
		wantParse(t, want, n)
	}
}

func TestPrintOfNoTimes(t *testing.T) {
	for _, n := range []int64{-1, -2, -60, -86399, -86400, -86401, -1 << 31, -1 << 32, -last, math.MinInt64, math.MinInt64 + 1,
		last + 1, last + 2, last + 86400, 2 * last, 1 << 40, 1 << 62, math.MaxInt64 - 1, math.MaxInt64} {
		wantPrint(t, n, "")
	}
}

// Each day from 1970 to the end, at its beginning or its end.
func TestPrintOfAllDays(t *testing.T) {
	day := time.Unix(0, 0).UTC()
	for n := int64(0); n <= last/inDay; n++ {
		year, month, of := day.Date()
		want := fmt.Sprintf("%2d-%.3s-%04d ", of, month, year)
		second, clock := n*inDay, "00:00:00 +0000"
		if n&1 == 1 {
			second, clock = second+inDay-1, "23:59:59 +0000"
		}
		if got := date.Print(second); got != want+clock {
			t.Fatalf("Print(%d): %q, want %q", second, got, want+clock)
		}
		day = day.AddDate(0, 0, 1)
	}
}

// Each second of a day.
func TestPrintOfAllSeconds(t *testing.T) {
	for s := range int64(inDay) {
		n := 951782400 + s
		want := fmt.Sprintf("29-Feb-2000 %02d:%02d:%02d +0000", s/3600, s/60%60, s%60)
		if got := date.Print(n); got != want {
			t.Fatalf("Print(%d): %q, want %q", n, got, want)
		}
		if got, ok := date.Parse(want); got != n || !ok {
			t.Fatalf("Parse(%q): %d, %v, want %d, true", want, got, ok, n)
		}
	}
}

func TestPrintAtRandom(t *testing.T) {
	r := rand.New(rand.NewSource(7))
	for range 100000 {
		n := r.Int63n(last + 1)
		if got := date.Print(n); got != text(n) || len(got) != 26 {
			t.Fatalf("Print(%d): %q, want %q", n, got, text(n))
		}
		if got, ok := date.Parse(date.Print(n)); got != n || !ok {
			t.Fatalf("Parse(%q): %d, %v, want %d, true", text(n), got, ok, n)
		}
	}
}

// P7.1: Parse

func TestParseByHand(t *testing.T) {
	for s, want := range map[string]int64{
		"17-jul-1996 02:44:25 -0700": 837596665,
		"17-Jul-1996 09:44:25 +0000": 837596665,
		"17-JUL-1996 09:44:25 -0000": 837596665,
		"01-Jan-1970 00:00:00 +0000": 0,
		" 1-Jan-1970 00:00:00 -0000": 0,
		"01-Jan-1970 01:00:00 +0100": 0,
		" 1-Jan-1970 00:00:59 +0000": 59,
		" 1-Jan-1970 00:59:00 +0000": 59 * 60,
		" 1-Jan-1970 23:00:00 +0000": 23 * 3600,
		"09-Sep-2001 01:46:40 +0000": 1000000000,
		" 9-Sep-2001 01:46:40 +0000": 1000000000,
		"10-Sep-2001 01:46:40 +0000": 1000000000 + inDay,
		"28-FEB-2100 00:00:00 +0000": 4107456000,
		// A day, a month, a year further, or back.
		" 1-Mar-2000 00:30:00 +0100": 951868800 - 1800,
		"29-Feb-2000 23:30:00 -0100": 951868800 + 1800,
		" 1-Jan-2000 13:00:00 +1400": 946684800 - 3600,
		"31-Dec-1999 11:00:00 -1400": 946684800 + 3600,
		// The furthest ones.
		" 1-Jan-2000 00:00:00 +1459": 946684800 - 14*3600 - 59*60,
		" 1-Jan-2000 00:00:00 -1459": 946684800 + 14*3600 + 59*60,
		" 1-Jan-2000 00:00:00 +0059": 946684800 - 59*60,
		" 1-Jan-2000 00:00:00 -0059": 946684800 + 59*60,
		" 1-Jan-2000 00:00:00 +0530": 946684800 - 5*3600 - 30*60,
		" 1-Jan-2000 00:00:00 +0001": 946684800 - 60,
		" 1-Jan-2000 00:00:00 -0001": 946684800 + 60,
		// Times at both ends, told of years and hours that are beyond them.
		"31-Dec-1969 23:30:00 -0100": 1800,
		"31-Dec-1969 23:59:00 -0001": 0,
		"31-Dec-1969 23:00:00 -0100": 0,
		"31-Dec-1969 09:01:00 -1459": 0,
		"31-Dec-1969 23:59:59 -1459": 14*3600 + 58*60 + 59,
		" 1-Jan-1970 00:01:00 +0001": 0,
		" 1-Jan-1970 14:59:00 +1459": 0,
		"31-Dec-9999 23:59:59 +0000": last,
		"31-Dec-9999 23:59:59 -0000": last,
		"31-Dec-9999 23:59:59 +0001": last - 60,
		"31-Dec-9999 23:59:59 +1459": last - 14*3600 - 59*60,
		"31-Dec-9999 23:58:59 -0001": last,
		"31-Dec-9999 09:00:59 -1459": last,
	} {
		wantParse(t, s, want)
	}
}

func TestParseOfWhatIsNoTime(t *testing.T) {
	for _, s := range []string{
		"31-Dec-1969 23:59:59 +0000", "31-Dec-1969 23:59:59 -0000", "31-Dec-1969 23:58:59 -0001", "31-Dec-1969 22:59:59 -0100", "31-Dec-1969 09:00:59 -1459",
		" 1-Jan-1970 00:00:00 +0001", " 1-Jan-1970 00:00:59 +0001", " 1-Jan-1970 14:58:59 +1459", "31-Dec-1969 23:59:59 +1459",
		"31-Dec-9999 23:59:59 -0001", "31-Dec-9999 23:59:00 -0001", "31-Dec-9999 23:00:00 -0100", "31-Dec-9999 09:01:00 -1459",
		" 1-Jan-0000 00:00:00 +0000", "29-Feb-0000 00:00:00 +0000", "31-Dec-0000 23:59:59 -1459", " 1-Jan-0001 00:00:00 +0000", " 1-Jan-0070 00:00:00 +0000",
		" 1-Jan-1000 00:00:00 +0000", "29-Feb-1968 00:00:00 +0000", " 1-Jan-1969 00:00:00 -1459", "30-Dec-1969 23:59:59 -1459",
	} {
		wantNoTime(t, s)
	}
}

// Every day of every month of every year: those that there are, and no others.
func TestParseOfAllDays(t *testing.T) {
	for year := 1970; year <= 9999; year++ {
		for month := time.January; month <= time.December; month++ {
			first := time.Date(year, month, 1, 12, 30, 15, 0, time.UTC).Unix()
			days := time.Date(year, month+1, 0, 0, 0, 0, 0, time.UTC).Day()
			of := fmt.Sprintf("-%.3s-%04d 12:30:15 +0000", month, year)
			for day := 1; day <= days; day += max(1, days-1) {
				wantParse(t, fmt.Sprintf("%02d", day)+of, first+int64(day-1)*inDay)
			}
			wantNoTime(t, strconv.Itoa(days+1)+of)
			wantNoTime(t, "00"+of)
		}
	}
}

func TestParseOfDays(t *testing.T) {
	for _, month := range []struct {
		of   string
		days int
	}{{"-Jan-2021", 31}, {"-Feb-2021", 28}, {"-Feb-2024", 29}, {"-Feb-2000", 29}, {"-Feb-2100", 28}, {"-Feb-2400", 29}, {"-Mar-2021", 31}, {"-Apr-2021", 30}, {"-May-2021", 31},
		{"-Jun-2021", 30}, {"-Jul-2021", 31}, {"-Aug-2021", 31}, {"-Sep-2021", 30}, {"-Oct-2021", 31}, {"-Nov-2021", 30}, {"-Dec-2021", 31}} {
		of := month.of + " 01:02:03 +0000"
		zero, _ := date.Parse("01" + of)
		for day := range 100 {
			s := fmt.Sprintf("%02d", day) + of
			if day < 1 || day > month.days {
				wantNoTime(t, s)
				continue
			}
			wantParse(t, s, zero+int64(day-1)*inDay)
			if day < 10 {
				wantParse(t, fmt.Sprintf("%2d", day)+of, zero+int64(day-1)*inDay)
			}
		}
		for _, day := range []string{"", " ", "  ", "1", "9", " 0", "1 ", "2 ", "0 ", "001", "011", " 11", "  1", "1\t", "\t1", "+1", "-1", "a1", "1a", "0x", "\x001", "1\x00", "\u00b9", "\u0661", "100"} {
			wantNoTime(t, day+of)
		}
	}
}

func TestParseOfMonths(t *testing.T) {
	for n, month := range []string{"jan", "feb", "mar", "apr", "may", "jun", "jul", "aug", "sep", "oct", "nov", "dec"} {
		want := time.Date(2026, time.Month(n+1), 19, 4, 0, 0, 0, time.UTC).Unix()
		for ways := range 8 {
			b := []byte(month)
			for i := range b {
				if ways>>i&1 == 1 {
					b[i] -= 'a' - 'A'
				}
			}
			wantParse(t, "19-"+string(b)+"-2026 04:00:00 +0000", want)
		}
		wantPrint(t, want, "19-"+strings.ToUpper(month[:1])+month[1:]+"-2026 04:00:00 +0000")
		// Any other byte at any of its places.
		for i := range month {
			for c := range 256 {
				s := month[:i] + string([]byte{byte(c)}) + month[i+1:]
				_, is := monthNames[strings.ToLower(s)]
				if _, ok := date.Parse("19-" + s + "-2026 04:00:00 +0000"); ok != is {
					t.Errorf("Parse of the month %q: %v", s, ok)
				}
			}
		}
	}
	for _, s := range []string{"", "J", "Ja", "Janu", "January", "Sept", " Jan", "Jan ", "001", "01", "1", "12", "   ", "Foo", "anF", "nFe", "eca", "ebM", "\x00\x00\x00", "---",
		"\u017fep", "\u017fe", "ma\u0443", "J\u00e4n", "\uff2aan", "\u212aa", "decJ", "*an", "J*n", "jAn-", "-Jan"} {
		wantNoTime(t, "19-"+s+"-2026 04:00:00 +0000")
	}
}

var monthNames = map[string]time.Month{"jan": 1, "feb": 2, "mar": 3, "apr": 4, "may": 5, "jun": 6, "jul": 7, "aug": 8, "sep": 9, "oct": 10, "nov": 11, "dec": 12}

// All that two digits can say, at each of their places.
func TestParseOfHoursMinutesSeconds(t *testing.T) {
	const day = 946684800
	for n := range int64(100) {
		two := fmt.Sprintf("%02d", n)
		for _, c := range []struct {
			s    string
			most int64
			want int64
		}{
			{"01-Jan-2000 " + two + ":00:00 +0000", 23, day + n*3600},
			{"01-Jan-2000 " + two + ":59:59 +0000", 23, day + n*3600 + 3599},
			{"01-Jan-2000 00:" + two + ":00 +0000", 59, day + n*60},
			{"01-Jan-2000 23:" + two + ":59 +0000", 59, day + 23*3600 + n*60 + 59},
			{"01-Jan-2000 00:00:" + two + " +0000", 59, day + n},
			{"01-Jan-2000 23:59:" + two + " +0000", 59, day + 23*3600 + 59*60 + n},
			{"01-Jan-2000 00:00:00 +" + two + "00", 14, day - n*3600},
			{"01-Jan-2000 00:00:00 -" + two + "00", 14, day + n*3600},
			{"01-Jan-2000 00:00:00 +" + two + "59", 14, day - n*3600 - 59*60},
			{"01-Jan-2000 00:00:00 +00" + two, 59, day - n*60},
			{"01-Jan-2000 00:00:00 -00" + two, 59, day + n*60},
			{"01-Jan-2000 00:00:00 -14" + two, 59, day + 14*3600 + n*60},
		} {
			if n <= c.most {
				wantParse(t, c.s, c.want)
			} else {
				wantNoTime(t, c.s)
			}
		}
	}
}

func TestParseOfYears(t *testing.T) {
	for year := range 10000 {
		s := fmt.Sprintf("15-Jun-%04d 12:00:00 +0000", year)
		if year < 1970 {
			wantNoTime(t, s)
		} else {
			wantParse(t, s, time.Date(year, 6, 15, 12, 0, 0, 0, time.UTC).Unix())
		}
	}
	for _, year := range []string{"", "1", "20", "200", "02000", "20000", "10000", "-2000", "+2000", " 2000", "2000 ", "200a", "a000", "0x20", "2e03", "2_00", "20.0", "-001", "+200", "\u0662000"} {
		wantNoTime(t, " 1-Jan-"+year+" 00:00:00 +0000")
	}
}

// Every byte at every place, one that is put between, one that isn't there, and every cut.
func TestParseOfBytes(t *testing.T) {
	for _, s := range []string{"17-Jul-1996 02:44:25 -0700", " 9-Sep-2001 01:46:40 +0000", "01-Jan-1970 01:00:00 +0100", "31-Dec-9999 23:59:59 +0000"} {
		for i := range len(s) {
			for c := range 256 {
				b := string([]byte{byte(c)})
				sameAsPlain(t, s[:i]+b+s[i+1:])
				wantNoTime(t, s[:i]+b+s[i:])
			}
			wantNoTime(t, s[:i])
			wantNoTime(t, s[:i]+s[i+1:])
			if i > 0 {
				wantNoTime(t, s[i:])
			}
		}
		for c := range 256 {
			wantNoTime(t, s+string([]byte{byte(c)}))
		}
		wantNoTime(t, s+s)
		wantNoTime(t, strings.TrimLeft(s, " 0123456789"))
		wantNoTime(t, `"`+s+`"`)
	}
}

func TestParseOfOtherForms(t *testing.T) {
	for _, s := range []string{
		"", " ", "\x00", "now", "0", "1000000000", strings.Repeat(" ", 26), strings.Repeat("0", 26), strings.Repeat("-", 26), strings.Repeat("\xff", 26),
		"2026-11-19T04:00:00Z", "2026-11-19 04:00:00 +0000", "Thu, 19 Nov 2026 04:00:00 +0000", "19 Nov 2026 04:00:00 +0000", "19/Nov/2026 04:00:00 +0000", "19-Nov-2026",
		"19-Nov-2026 04:00:00", "19-Nov-2026 04:00:00 ", "19-Nov-2026 04:00:00 +", "19-Nov-2026 04:00:00 UTC", "19-Nov-2026 04:00:00 Z", "19-Nov-2026 04:00:00 GMT+0", "19-Nov-2026T04:00:00 +0000",
		"19-Nov-2026 04:00:00 +000", "19-Nov-2026 04:00:00 +00000", "19-Nov-2026 04:00:00 +00:00", "19-Nov-2026 04:00:00 0000", "19-Nov-2026 04:00:00  0000", "19-Nov-2026 04:00:00 00000",
		"19-Nov-2026 04:00:00+0000", "19-Nov-2026  04:00:00 +0000", "19-Nov-2026 4:00:00 +0000", "19-Nov-2026  4:00:00 +0000", "19-Nov-2026 04:00 +0000", "19-Nov-2026 04:0:00 +0000", "19-Nov-2026 04:00:0 +0000",
		"19-Nov-2026 04.00.00 +0000", "19-Nov-2026 04:00:00.0 +0000", "19-Nov-2026 -4:00:00 +0000", "19-Nov-2026 04:-1:00 +0000", "19-Nov-2026 04:00:+1 +0000", "19-Nov-2026 04:00:00 ++100", "19-Nov-2026 04:00:00 +-100",
		"19-Nov-2026 04:00:00 +0000\r\n", "\n19-Nov-2026 04:00:00 +0000", " 19-Nov-2026 04:00:00 +0000", "19-11-2026 04:00:00 +0000", "Nov-19-2026 04:00:00 +0000", "19-Nov-26 04:00:00 +0000",
		strings.Repeat("19-Nov-2026 04:00:00 +0000", 1<<16), strings.Repeat(" ", 1<<22), strings.Repeat("0", 1<<22), strings.Repeat("0", 1<<22) + "1-Jan-2000 00:00:00 +0000",
	} {
		wantNoTime(t, s)
	}
}

var form = regexp.MustCompile(`\A( [0-9]|[0-9]{2})-([A-Za-z]{3})-([0-9]{4}) ([0-9]{2}):([0-9]{2}):([0-9]{2}) ([+-])([0-9]{2})([0-9]{2})\z`)

// plainParse answers, over the library's calendar, what the chapter's words say of s.
func plainParse(s string) (int64, bool) {
	m := form.FindStringSubmatch(s)
	if m == nil {
		return 0, false
	}
	var n [10]int
	for i := range n {
		n[i], _ = strconv.Atoi(strings.TrimSpace(m[i]))
	}
	month, is := monthNames[strings.ToLower(m[2])]
	if !is || n[4] > 23 || n[5] > 59 || n[6] > 59 || n[8] > 14 || n[9] > 59 {
		return 0, false
	}
	ahead := time.Duration(n[8])*time.Hour + time.Duration(n[9])*time.Minute
	if m[7] == "-" {
		ahead = -ahead
	}
	at := time.Date(n[3], month, n[1], n[4], n[5], n[6], 0, time.UTC)
	if at.Month() != month || at.Day() != n[1] {
		return 0, false
	}
	at = at.Add(-ahead)
	if at.Unix() < 0 || at.Unix() > last {
		return 0, false
	}
	return at.Unix(), true
}

// sameAsPlain tells whether s is a time's text.
func sameAsPlain(t *testing.T, s string) bool {
	t.Helper()
	got, ok := date.Parse(s)
	want, is := plainParse(s)
	if got != want || ok != is {
		t.Fatalf("Parse(%q): %d, %v, want %d, %v", s, got, ok, want, is)
	}
	return is
}

func TestParseAtRandom(t *testing.T) {
	r := rand.New(rand.NewSource(77))
	names := []string{"Jan", "feb", "MAR", "aPr", "maY", "JuN", "jUL", "Aug", "sep", "OCT", "Nov", "dEc", "Feb", "FEB", "xyz"}
	years := []int{1969, 1970, 2000, 2100, 9999, 0}
	right, wrong := 0, 0
	for range 200000 {
		year := r.Intn(10000)
		if r.Intn(2) == 0 {
			year = years[r.Intn(len(years))]
		}
		s := fmt.Sprintf("%0*d-%s-%04d %02d:%02d:%02d %c%02d%02d", 1+r.Intn(2), r.Intn(33), names[r.Intn(len(names))], year,
			r.Intn(25), r.Intn(61), r.Intn(61), "+-"[r.Intn(2)], r.Intn(16), r.Intn(61))
		if len(s) == 25 {
			s = " " + s
		}
		if r.Intn(10) == 0 {
			at := r.Intn(len(s))
			s = s[:at] + string([]byte{byte(r.Intn(256))}) + s[at+r.Intn(2):]
		}
		if sameAsPlain(t, s) {
			right++
		} else {
			wrong++
		}
	}
	if right < 10000 || wrong < 10000 {
		t.Error("nearly nothing was right, or nearly nothing wrong:", right, wrong)
	}
}

// P7.1: Day

func TestDay(t *testing.T) {
	for n, want := range map[int64]int64{
		0: 0, 1: 0, 86399: 0, 86400: 1, 86401: 1, 172799: 1, 172800: 2, 951782400: 11016, 951782399: 11015, 1 << 31: 24855, 1 << 32: 49710,
		last: 2932896, last - 86399: 2932896, last - 86400: 2932895,
		-1: 0, -5: 0, -86399: 0, -86400: 0, -86401: 0, -1 << 40: 0, math.MinInt64: 0, math.MinInt64 + 1: 0,
		// It isn't asked whether it is a time.
		last + 1: 2932897, last + 86400: 2932897, last + 86401: 2932898, math.MaxInt64: 106751991167300,
	} {
		if got := date.Day(n); got != want {
			t.Errorf("Day(%d): %d, want %d", n, got, want)
		}
	}
}

// A day's number is the same from its first second to its last, and the next one's is one more.
func TestDayOfAllDays(t *testing.T) {
	for n := int64(0); n <= last/inDay; n++ {
		first, end := date.Day(n*inDay), date.Day(n*inDay+inDay-1)
		if first != n || end != n {
			t.Fatalf("the day %d is told as %d and %d", n, first, end)
		}
	}
}

// R2: the answers hang on the arguments alone.
func TestTwice(t *testing.T) {
	for _, n := range []int64{0, 951782400, last, -1, last + 1} {
		once := date.Print(n)
		wantPrint(t, n, once)
		got, ok := date.Parse(once)
		again, too := date.Parse(once)
		if got != again || ok != too || date.Day(n) != date.Day(n) {
			t.Error("another answer of", n)
		}
	}
}

// R3: an answer is new memory.
func TestPrintIsNewMemory(t *testing.T) {
	for _, n := range []int64{0, 951782400, last} {
		a, b := date.Print(n), date.Print(n)
		if unsafe.StringData(a) == unsafe.StringData(b) {
			t.Error("two answers share memory:", a)
		}
	}
}
