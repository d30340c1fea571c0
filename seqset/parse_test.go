package seqset_test

import (
	"math/big"
	"math/rand"
	"regexp"
	"slices"
	"strconv"
	"strings"
	"testing"

	"cubby/seqset"
)

const most = 1<<32 - 1

func span(from, to uint32) seqset.Span { return seqset.Span{From: from, To: to} }

func wantSet(t *testing.T, s string, want ...seqset.Span) {
	t.Helper()
	if got, ok := seqset.Parse(s); !ok || !slices.Equal(got, want) {
		t.Errorf("Parse(%.80q): %v, %v, want %v, true", s, got, ok, want)
	}
}

func wantNoSet(t *testing.T, s string) {
	t.Helper()
	if got, ok := seqset.Parse(s); ok || len(got) != 0 {
		t.Errorf("Parse(%.80q): %v, %v, want none, false", s, got, ok)
	}
}

// plainParse goes by the chapter's words.
func plainParse(s string) ([]seqset.Span, bool) {
	if !plainSet.MatchString(s) {
		return nil, false
	}
	var l []seqset.Span
	for _, part := range strings.Split(s, ",") {
		numbers := strings.Split(part, ":")
		from, ok := plainNumber(numbers[0])
		to, okToo := plainNumber(numbers[len(numbers)-1])
		if !ok || !okToo {
			return nil, false
		}
		l = append(l, span(from, to))
	}
	return l, len(l) <= 100
}

var plainSet = regexp.MustCompile(`\A(\*|[1-9][0-9]*)(:(\*|[1-9][0-9]*))?(,(\*|[1-9][0-9]*)(:(\*|[1-9][0-9]*))?)*\z`)

func plainNumber(s string) (uint32, bool) {
	if s == "*" {
		return 0, true
	}
	n, _ := new(big.Int).SetString(s, 10)
	return uint32(n.Uint64()), n.IsUint64() && n.Uint64() <= most
}

func wantAsPlain(t *testing.T, s string) bool {
	t.Helper()
	l, ok := plainParse(s)
	if ok {
		wantSet(t, s, l...)
	} else {
		wantNoSet(t, s)
	}
	return ok
}

// P13.1: Parse

func TestParseOfSets(t *testing.T) {
	wantSet(t, "1", span(1, 1))
	wantSet(t, "*", span(0, 0))
	wantSet(t, "2:4", span(2, 4))
	wantSet(t, "4:2", span(4, 2))
	wantSet(t, "7:7", span(7, 7))
	wantSet(t, "*:*", span(0, 0))
	wantSet(t, "3:*", span(3, 0))
	wantSet(t, "*:3", span(0, 3))
	wantSet(t, "2:4,*", span(2, 4), span(0, 0))
	wantSet(t, "*,2:4", span(0, 0), span(2, 4))
	wantSet(t, "1,1,1", span(1, 1), span(1, 1), span(1, 1))
	wantSet(t, "5,3,4:1,2", span(5, 5), span(3, 3), span(4, 1), span(2, 2))
	wantSet(t, "10,100:1000,100000", span(10, 10), span(100, 1000), span(100000, 100000))
}

func TestParseOfNumbers(t *testing.T) {
	for _, n := range []uint32{1, 2, 9, 10, 11, 19, 90, 99, 100, 101, 255, 256, 65535, 65536, 999999999, 1000000000, 1<<31 - 1, 1 << 31, 3999999999, 4000000000, 4294967289, 4294967290, most - 1, most} {
		s := strconv.FormatUint(uint64(n), 10)
		wantSet(t, s, span(n, n))
		wantSet(t, s+":*", span(n, 0))
		wantSet(t, "*:"+s, span(0, n))
		wantSet(t, "1,"+s+":"+s+",2", span(1, 1), span(n, n), span(2, 2))
		for _, ahead := range []string{"0", "00", "+", "-", " ", "0x", "*", "\x00", "_"} {
			wantNoSet(t, ahead+s)
			wantNoSet(t, "1:"+ahead+s)
			wantNoSet(t, ahead+s+":1")
			wantNoSet(t, "1,"+ahead+s+",2")
		}
		for _, behind := range []string{" ", "*", ".", ".0", "e1", "_", "\x00", "\r\n", "u"} {
			wantNoSet(t, s+behind)
			wantNoSet(t, "1:"+s+behind)
			wantNoSet(t, s+behind+":1")
			wantNoSet(t, "1,"+s+behind+",2")
		}
	}
}

// What is too much at any place; some of these are small again where 32 or 64 bits run over.
func TestParseOfNumbersTooGreat(t *testing.T) {
	for _, s := range []string{
		"0", "00", "000", "4294967296", "4294967297", "4294967299", "4294967300", "4294967396", "4294968295", "5000000000", "9999999999", "10000000000", "42949672950", "42949672960",
		"9223372036854775807", "9223372036854775808", "18446744073709551615", "18446744073709551616", "18446744073709551617",
		"184467440737095516170", "79228162514264337593543950337", "340282366920938463463374607431768211457", strings.Repeat("9", 1000), "1" + strings.Repeat("0", 64), "1" + strings.Repeat("0", 1<<20),
	} {
		for _, set := range []string{s, s + ":1", "1:" + s, s + ":*", "*:" + s, s + ":" + s, s + ",1", "1," + s, "1," + s + ",2", "*,2:" + s + ",3"} {
			wantNoSet(t, set)
		}
	}
}

func TestParseOfNoSets(t *testing.T) {
	for _, s := range []string{
		"", ",", ",,", ":", "::", ":,", ",:", "1,", ",1", "1,,2", ",1,2", "1,2,", "1:", ":1", "1::2", "1:2:3", "1:2:", ":1:2", "*:", ":*", "*:*:*", "*:1:*", "**", "*1", "1*", "1:*1", "1:1*",
		"1,:2", "1:,2", "1,2:", "1:2,", ",1:2", "*,", ",*", "*,,*",
		" ", " 1", "1 ", "1 2", "1, 2", "1 ,2", "1 :2", "1: 2", "1\t", "\n1", "1\r\n", "1\x00", "\x001", "1;2", "1.2", "1-2", "1..2", "1;", "a", "1a", "a1", "A", "x", "0x1", "1e3", "1_0", "1'0", "+1", "-1", "1+", "%", "?", "$", "(1)", "{1}", "\"1\"", "[1]",
		"٣", "१", "１", "１:２", "1،2", "1：2", "＊", "²", "\xff", "1\xff", "\xff1", "1,\xff", "1:\xff", "\xc0\xaa",
	} {
		wantNoSet(t, s)
	}
}

// Every byte at every place of some sets.
func TestParseOfBytes(t *testing.T) {
	for _, s := range []string{"", "1", "*", "12", "1:2", "*:*", "10:20,30", "1,2", "4294967295", "9:*,*:9,*,10"} {
		for at := range len(s) + 1 {
			for c := range 256 {
				wantAsPlain(t, s[:at]+string([]byte{byte(c)})+s[at:])
				if at < len(s) {
					wantAsPlain(t, s[:at]+string([]byte{byte(c)})+s[at+1:])
				}
			}
			wantAsPlain(t, s[:at])
			wantAsPlain(t, s[at:])
		}
	}
}

func TestParseOfCounts(t *testing.T) {
	for _, part := range []string{"1", "*", "1:2", "*:*", "4294967295:4294967295"} {
		x, _ := seqset.Parse(part)
		for n := 1; n <= 100; n++ {
			wantSet(t, strings.Repeat(part+",", n-1)+part, slices.Repeat(x, n)...)
			wantNoSet(t, strings.Repeat(part+",", n))
			wantNoSet(t, strings.Repeat(part+",", n-1)+"0")
		}
		for _, n := range []int{101, 102, 128, 200, 256, 257, 356, 65536, 65636} {
			wantNoSet(t, strings.Repeat(part+",", n-1)+part)
		}
	}
}

// All texts of at most five bytes of those that stand in a set, and some that don't.
func TestParseOfAllThatAreShort(t *testing.T) {
	sets := 0
	var walk func(s string, left int)
	walk = func(s string, left int) {
		if wantAsPlain(t, s) {
			sets++
		}
		for _, c := range "0194*:, " {
			if left > 0 {
				walk(s+string(c), left-1)
			}
		}
	}
	walk("", 5)
	if sets < 1000 {
		t.Error("nearly nothing was a set:", sets)
	}
}

func TestParseAtRandom(t *testing.T) {
	r := rand.New(rand.NewSource(13))
	right, wrong := 0, 0
	for range 20000 {
		s := randomText(r)
		if r.Intn(2) == 0 {
			at := r.Intn(len(s) + 1)
			s = s[:at] + string("0159*:, x"[r.Intn(9)]) + s[at:]
		}
		if wantAsPlain(t, s) {
			right++
		} else {
			wrong++
		}
	}
	if right < 1000 || wrong < 1000 {
		t.Error("nearly nothing was right, or nearly nothing wrong:", right, wrong)
	}
}

// randomText answers the text of a set, or of one with a few parts too many.
func randomText(r *rand.Rand) string {
	number := func() string {
		if r.Intn(4) == 0 {
			return "*"
		}
		return strconv.FormatUint(uint64(most>>r.Intn(33)-r.Intn(2)), 10)
	}
	parts := make([]string, 1+r.Intn(8))
	if r.Intn(10) == 0 {
		parts = make([]string, 95+r.Intn(10))
	}
	for i := range parts {
		parts[i] = number()
		if r.Intn(2) == 0 {
			parts[i] += ":" + number()
		}
	}
	return strings.Join(parts, ",")
}

// R1: it ends, and takes no more memory than a set needs.
func TestParseEnds(t *testing.T) {
	n := 1 << 24
	for _, s := range []string{strings.Repeat(",", n), strings.Repeat("1,", n), strings.Repeat(":", n), strings.Repeat("1:", n), strings.Repeat("*", n), strings.Repeat("9", n), strings.Repeat("0", n), "1," + strings.Repeat("1", n), strings.Repeat("*:*,", n)} {
		wantNoSet(t, s)
		if some := testing.AllocsPerRun(1, func() { seqset.Parse(s) }); some > 100 {
			t.Errorf("Parse(%.20q..): memory was asked for %v times", s, some)
		}
	}
}

// R3: two answers share no memory, and R2: what becomes of one changes no other.
func TestParseMemory(t *testing.T) {
	first, _ := seqset.Parse("1,2:3,*")
	second, _ := seqset.Parse("1,2:3,*")
	for i := range first[:cap(first)] {
		first[:cap(first)][i] = span(9, 9)
	}
	if !slices.Equal(second, []seqset.Span{span(1, 1), span(2, 3), span(0, 0)}) {
		t.Error("answers share memory:", second)
	}
	wantSet(t, "1,2:3,*", second...)
}
