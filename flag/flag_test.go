package flag_test

import (
	"math"
	"math/rand"
	"slices"
	"strings"
	"testing"

	"cubby/api"
	"cubby/flag"
)

// one is a flag, by the chapter's words.
type one struct {
	bit  int
	name string
}

// five answers the flags in the chapter's order.
func five() []one {
	return []one{{1, "\\Seen"}, {2, "\\Answered"}, {4, "\\Flagged"}, {8, "\\Deleted"}, {16, "\\Draft"}}
}

// namesOf answers the names of the formed bits, in order.
func namesOf(flags int) []string {
	var names []string
	for _, f := range five() {
		if flags&f.bit != 0 {
			names = append(names, f.name)
		}
	}
	return names
}

// inAnyLetters answers s in all ways in which its letters can be great or small.
func inAnyLetters(s string) []string {
	ways := []string{""}
	for _, c := range strings.Split(s, "") {
		var longer []string
		for _, way := range ways {
			longer = append(longer, way+strings.ToLower(c))
			if strings.ToUpper(c) != strings.ToLower(c) {
				longer = append(longer, way+strings.ToUpper(c))
			}
		}
		ways = longer
	}
	return ways
}

// beyond answers numbers that have no formed bit.
func beyond() []int {
	l := []int{0, -32, -64, math.MinInt, math.MaxInt &^ 31, 1<<31 | 1<<32, -1 << 32}
	for n := 5; n < 63; n++ {
		l = append(l, 1<<n)
	}
	return l
}

func wantPrint(t *testing.T, flags int, want string) {
	t.Helper()
	if got := flag.Print(flags); got != want {
		t.Errorf("Print(%d): %q, want %q", flags, got, want)
	}
}

func wantParse(t *testing.T, want int, names ...string) {
	t.Helper()
	if got, ok := flag.Parse(names); got != want || !ok {
		t.Errorf("Parse(%.200q): %d, %v, want %d, true", names, got, ok, want)
	}
}

func wantNone(t *testing.T, names ...string) {
	t.Helper()
	if got, ok := flag.Parse(names); got != 0 || ok {
		t.Errorf("Parse(%.200q): %d, %v, want 0, false", names, got, ok)
	}
}

func wantChange(t *testing.T, flags, by, how, want int) {
	t.Helper()
	if got := flag.Change(flags, by, how); got != want {
		t.Errorf("Change(%d, %d, %d): %d, want %d", flags, by, how, got, want)
	}
}

// P8.1: Print

func TestPrintByHand(t *testing.T) {
	for flags, want := range map[int]string{
		0:                          "()",
		api.Seen:                   "(\\Seen)",
		api.Answered:               "(\\Answered)",
		api.Flagged:                "(\\Flagged)",
		api.Deleted:                "(\\Deleted)",
		api.Draft:                  "(\\Draft)",
		api.Draft | api.Seen:       "(\\Seen \\Draft)",
		api.Deleted | api.Answered: "(\\Answered \\Deleted)",
		api.Deleted | api.Flagged:  "(\\Flagged \\Deleted)",
		1 | 2 | 4:                  "(\\Seen \\Answered \\Flagged)",
		31 - 1:                     "(\\Answered \\Flagged \\Deleted \\Draft)",
		31:                         "(\\Seen \\Answered \\Flagged \\Deleted \\Draft)",
		// Other bits don't count.
		32:                "()",
		33:                "(\\Seen)",
		64 | 16:           "(\\Draft)",
		1 << 62:           "()",
		-1:                "(\\Seen \\Answered \\Flagged \\Deleted \\Draft)",
		-2:                "(\\Answered \\Flagged \\Deleted \\Draft)",
		-16:               "(\\Draft)",
		-31:               "(\\Seen)",
		-32:               "()",
		math.MinInt:       "()",
		math.MinInt | 4:   "(\\Flagged)",
		math.MaxInt:       "(\\Seen \\Answered \\Flagged \\Deleted \\Draft)",
		math.MaxInt &^ 30: "(\\Seen)",
	} {
		wantPrint(t, flags, want)
	}
}

func TestPrintOfAll(t *testing.T) {
	for flags := range 32 {
		want := "(" + strings.Join(namesOf(flags), " ") + ")"
		for _, other := range beyond() {
			wantPrint(t, flags|other, want)
		}
	}
}

// P8.1: Parse

func TestParseByHand(t *testing.T) {
	wantParse(t, 0)
	wantParse(t, api.Seen, "\\Seen")
	wantParse(t, api.Answered, "\\Answered")
	wantParse(t, api.Flagged, "\\Flagged")
	wantParse(t, api.Deleted, "\\Deleted")
	wantParse(t, api.Draft, "\\Draft")
	wantParse(t, api.Seen, "\\SEEN")
	wantParse(t, api.Answered, "\\answered")
	wantParse(t, api.Flagged, "\\fLAGGED")
	wantParse(t, api.Draft|api.Deleted, "\\dRaFt", "\\DELETEd")
	// They may be in any order, and there twice.
	wantParse(t, api.Draft|api.Seen, "\\Draft", "\\Seen")
	wantParse(t, api.Seen|api.Draft, "\\Seen", "\\Draft")
	wantParse(t, api.Seen, "\\Seen", "\\Seen")
	wantParse(t, api.Flagged|api.Answered, "\\Flagged", "\\Answered", "\\FLAGGED", "\\answered", "\\flagged")
	wantParse(t, 31, "\\Draft", "\\Deleted", "\\Flagged", "\\Answered", "\\Seen")
}

func TestParseOfNoNames(t *testing.T) {
	for _, names := range [][]string{nil, {}, make([]string, 0, 5)} {
		if got, ok := flag.Parse(names); got != 0 || !ok {
			t.Errorf("Parse of no names: %d, %v, want 0, true", got, ok)
		}
	}
}

func TestParseInAnyLetters(t *testing.T) {
	for _, f := range five() {
		for _, way := range inAnyLetters(f.name) {
			wantParse(t, f.bit, way)
			wantParse(t, f.bit|api.Draft, "\\Draft", way)
			wantNone(t, way, way[1:])
		}
	}
}

// noNames answers texts that aren't names of flags.
func noNames() []string {
	return []string{
		"", "\\", "\\\\", " ", "\x00", "()", "(", ")", "0", "1", "31", "*", "\\*", "NIL",
		"Seen", "seen", "SEEN", "Answered", "Flagged", "Deleted", "Draft", "Unseen", "\\Unseen", "\\Recent", "\\Drafts", "$Seen", "$Forwarded", "Junk",
		"\\See", "\\Seenn", "\\Seen ", " \\Seen", "\\ Seen", "\\\\Seen", "/Seen", "\\Seen\\", "\\Seen\x00", "\x00\\Seen", "\\Seen\r\n", "\\Se en", "\\Sen", "\\Sean",
		"(\\Seen)", "\"\\Seen\"", "'\\Seen'", "{5}", "\\Seen,\\Draft", "\\Seen \\Draft", "\\Seen\\Draft", "\\Delete", "\\Deleted\t", "\\Deletet", "\\Dratf",
		"\\Flag", "\\Answer", "\\DraftDraft", "\\SeenDraft", "\n", "\\\n", "\\Seen\n",
		// Letters that are taken for such ones elsewhere, or look so.
		"\\\u017feen", "\\\u017fEEN", "\u017feen", "\\\u017fen", "\\\u017fee", "\\\u017f", "\\S\u0435en", "\\D\u0433aft", "\\Dr\u00e5ft", "\\\uff33een", "\uff3cSeen", "\u2216Seen", "\\Se\u0301en",
		"\\\u017fn\u017fwered", "\\An\u017fwered", "\\An\u017fwere", "\\AN\u017fWERED", "\\\u017f\u017f", "\\Draf\uff54", "\\Draft\u200b", "\\D\ufb02", "\ufeff\\Seen",
		"\\Seen\xff", "\xff\\Seen", "\\See\xee", "\\See\xc3\xae", "\xdcSeen", "\\\xd3een", "\\\xf3een", "\\Se\xe5n", "\ufffdSeen",
		// What differs from a letter in the bit by which great ones differ from small ones.
		"|Seen", "\\3een", "\\\x13een", "\\Se%n", "\\See.",
		strings.Repeat("\\Seen", 1000), strings.Repeat("\\", 1<<20), "\\" + strings.Repeat("Seen", 1<<18),
	}
}

func TestParseOfWhatIsNone(t *testing.T) {
	all := namesOf(31)
	for _, s := range noNames() {
		wantNone(t, s)
		wantNone(t, s, s)
		for at := range len(all) + 1 {
			wantNone(t, slices.Insert(slices.Clone(all), at, s)...)
		}
	}
}

// Every byte at every place of every name.
func TestParseOfBytes(t *testing.T) {
	for _, f := range five() {
		for at := range len(f.name) {
			for c := range 256 {
				s := f.name[:at] + string([]byte{byte(c)}) + f.name[at+1:]
				if strings.ToLower(s) == strings.ToLower(f.name) {
					wantParse(t, f.bit, s)
				} else {
					wantNone(t, s)
				}
				wantNone(t, f.name[:at]+string([]byte{byte(c)})+f.name[at:])
			}
			wantNone(t, f.name[:at])
			wantNone(t, f.name[at+1:])
			wantNone(t, f.name[:at]+f.name[at+1:])
		}
		for c := range 256 {
			wantNone(t, f.name+string([]byte{byte(c)}))
		}
	}
}

func TestParseOfWhatPrintTells(t *testing.T) {
	for flags := range 32 {
		text := flag.Print(flags)
		names := strings.Fields(text[1 : len(text)-1])
		wantParse(t, flags, names...)
		slices.Reverse(names)
		wantParse(t, flags, names...)
		wantParse(t, flags, strings.Fields(strings.ToUpper(text[1:len(text)-1]))...)
		wantNone(t, text)
		wantNone(t, append(names, text)...)
	}
}

func TestParseAtRandom(t *testing.T) {
	r := rand.New(rand.NewSource(8))
	right, wrong := 0, 0
	wrongs := noNames()
	ways := make(map[int][]string)
	for _, f := range five() {
		ways[f.bit] = inAnyLetters(f.name)
	}
	for range 20000 {
		var names []string
		want := 0
		for range r.Intn(12) {
			bit := 1 << r.Intn(5)
			names = append(names, ways[bit][r.Intn(len(ways[bit]))])
			want |= bit
		}
		if r.Intn(2) == 0 {
			wrong++
			wantNone(t, slices.Insert(names, r.Intn(len(names)+1), wrongs[r.Intn(40)])...)
		} else {
			right++
			wantParse(t, want, names...)
		}
	}
	if right < 1000 || wrong < 1000 {
		t.Error("nearly nothing was right, or nearly nothing wrong:", right, wrong)
	}
}

// R1: it ends, of a long list too, and what is wrong at its end counts.
func TestParseOfMany(t *testing.T) {
	names := slices.Repeat([]string{"\\Seen", "\\draft"}, 1<<19)
	wantParse(t, api.Seen|api.Draft, names...)
	wantParse(t, api.Seen|api.Draft|api.Deleted, append(names, "\\DELETED")...)
	wantNone(t, append(names, "\\Deleted ")...)
}

// R3: the list that is handed in is left as it is, its spare room too.
func TestParseLeavesItsList(t *testing.T) {
	for _, given := range [][]string{{"\\SEEN", "\\draft", "spare", "room"}, {"\\DRAFT", "none", "spare", "room"}} {
		kept := slices.Clone(given)
		flag.Parse(given[:2])
		if !slices.Equal(given, kept) {
			t.Errorf("Parse(%q) made %q of it", kept, given)
		}
	}
}

// P8.1: Change

func TestChangeByHand(t *testing.T) {
	for _, c := range [][4]int{
		{3, 6, 0, 6}, {3, 6, 1, 7}, {3, 6, 2, 1}, {3, 6, 3, 3}, {3, 6, -1, 3},
		{0, 0, 0, 0}, {0, 31, 0, 31}, {31, 0, 0, 0}, {31, 1, 0, 1},
		{0, 31, 1, 31}, {31, 0, 1, 31}, {1, 16, 1, 17}, {16, 16, 1, 16},
		{31, 31, 2, 0}, {0, 31, 2, 0}, {31, 0, 2, 31}, {31, 8, 2, 23}, {1, 8, 2, 1},
		// Both, not only one of them; without, not turned.
		{5, 5, 1, 5}, {5, 6, 1, 7}, {5, 6, 2, 1}, {1, 2, 2, 1},
		// Formed bits alone.
		{0, 32, 0, 0}, {0, 63, 0, 31}, {0, -1, 0, 31}, {31, -32, 0, 0}, {-1, 4, 0, 4},
		{32, 64, 1, 0}, {35, 64, 1, 3}, {3, 96, 1, 3}, {-32, 1, 1, 1}, {-1, 0, 1, 31}, {0, -1, 1, 31}, {math.MinInt, math.MaxInt, 1, 31},
		{63, 1, 2, 30}, {-1, 1, 2, 30}, {-1, 0, 2, 31}, {31, -1, 2, 0}, {31, -32, 2, 31}, {math.MinInt, 1, 2, 0}, {math.MaxInt, 1 << 40, 2, 31},
		{63, 0, 3, 31}, {-1, 0, 3, 31}, {-32, 31, 3, 0}, {math.MinInt, 31, -1, 0}, {1 << 40, 31, 99, 0},
	} {
		wantChange(t, c[0], c[1], c[2], c[3])
	}
}

// plainChange answers flag by flag what the chapter's words say.
func plainChange(flags, by, how int) int {
	after := 0
	for _, f := range five() {
		was, is := flags&f.bit != 0, by&f.bit != 0
		stays := was
		switch how {
		case 0:
			stays = is
		case 1:
			stays = was || is
		case 2:
			stays = was && !is
		}
		if stays {
			after += f.bit
		}
	}
	return after
}

// hows answers the three ways, and others.
func hows() []int {
	return []int{0, 1, 2, 3, 4, 5, 31, 256, 257, 258, 1 << 32, 1<<32 + 1, 1<<32 + 2, -1, -2, -3, math.MinInt, math.MaxInt}
}

func TestChangeOfAll(t *testing.T) {
	for flags := -32; flags < 64; flags++ {
		for by := -32; by < 64; by++ {
			for _, how := range hows() {
				wantChange(t, flags, by, how, plainChange(flags, by, how))
			}
		}
	}
}

func TestChangeAtRandom(t *testing.T) {
	r := rand.New(rand.NewSource(88))
	for range 100000 {
		flags, by := int(r.Uint64()), int(r.Uint64())
		how := hows()[r.Intn(len(hows()))]
		wantChange(t, flags, by, how, plainChange(flags, by, how))
	}
}

// What other bits there are, on either side, isn't to be seen.
func TestChangeBesideOtherBits(t *testing.T) {
	r := rand.New(rand.NewSource(888))
	others := beyond()
	for flags := range 32 {
		for by := range 32 {
			for _, how := range hows() {
				want := plainChange(flags, by, how)
				other := others[r.Intn(len(others))]
				wantChange(t, flags|other, by, how, want)
				wantChange(t, flags, by|other, how, want)
				wantChange(t, flags|other, by|other, how, want)
			}
		}
	}
}
