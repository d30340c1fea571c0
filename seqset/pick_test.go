package seqset_test

import (
	"math/rand"
	"slices"
	"testing"
	"time"

	"cubby/seqset"
)

// plainHas goes by the chapter's words.
func plainHas(l []seqset.Span, n, greatest uint32) bool {
	for _, x := range l {
		ends := []uint64{uint64(x.From), uint64(x.To)}
		for i := range ends {
			if ends[i] == 0 {
				ends[i] = uint64(greatest)
			}
		}
		slices.Sort(ends)
		if n > 0 && ends[0] <= uint64(n) && uint64(n) <= ends[1] {
			return true
		}
	}
	return false
}

func plainPick(l []seqset.Span, all []uint32) []uint32 {
	var picked []uint32
	for _, n := range all {
		if plainHas(l, n, all[len(all)-1]) {
			picked = append(picked, n)
		}
	}
	return picked
}

// wantHas asks of all numbers from 0 to 20, and of the last ones, which of them are in.
func wantHas(t *testing.T, l []seqset.Span, greatest uint32, want ...uint32) {
	t.Helper()
	for n := range uint32(24) {
		if n > 20 {
			n += most - 23
		}
		if got := seqset.Has(l, n, greatest); got != slices.Contains(want, n) {
			t.Errorf("Has(%v, %d, %d): %v", l, n, greatest, got)
		}
	}
}

func wantPick(t *testing.T, l []seqset.Span, all []uint32, want ...uint32) {
	t.Helper()
	if got := seqset.Pick(l, all); !slices.Equal(got, want) {
		t.Errorf("Pick(%v, %v): %v, want %v", l, all, got, want)
	}
}

func set(l ...seqset.Span) []seqset.Span { return l }

// P13.1: Has

func TestHas(t *testing.T) {
	wantHas(t, nil, 9)
	wantHas(t, set(), 9)
	wantHas(t, set(span(3, 3)), 9, 3)
	wantHas(t, set(span(2, 4)), 9, 2, 3, 4)
	wantHas(t, set(span(4, 2)), 9, 2, 3, 4)
	wantHas(t, set(span(2, 4), span(8, 7)), 9, 2, 3, 4, 7, 8)
	wantHas(t, set(span(8, 7), span(2, 4), span(3, 3)), 9, 2, 3, 4, 7, 8)
	wantHas(t, set(span(1, 20)), most, 1, 2, 3, 4, 5, 6, 7, 8, 9, 10, 11, 12, 13, 14, 15, 16, 17, 18, 19, 20)
	wantHas(t, set(span(most, most)), 9, most)
	wantHas(t, set(span(most-1, most)), 9, most-1, most)
	wantHas(t, set(span(most, 20)), most, 20, most-2, most-1, most)
	wantHas(t, set(span(1, 1), span(most, most)), most, 1, most)
}

// *: the greatest one, at either end, and both; also beyond it a number stands for itself.
func TestHasOfGreatest(t *testing.T) {
	wantHas(t, set(span(0, 0)), 9, 9)
	wantHas(t, set(span(0, 0)), 1, 1)
	wantHas(t, set(span(0, 0)), most, most)
	wantHas(t, set(span(7, 0)), 9, 7, 8, 9)
	wantHas(t, set(span(0, 7)), 9, 7, 8, 9)
	wantHas(t, set(span(9, 0)), 9, 9)
	wantHas(t, set(span(0, 9)), 9, 9)
	wantHas(t, set(span(11, 0)), 9, 9, 10, 11)
	wantHas(t, set(span(0, 11)), 9, 9, 10, 11)
	wantHas(t, set(span(18, 0)), most, 18, 19, 20, most-2, most-1, most)
	wantHas(t, set(span(1, 0)), 3, 1, 2, 3)
	wantHas(t, set(span(1, 2), span(0, 0), span(5, 5)), 9, 1, 2, 5, 9)
	wantHas(t, set(span(12, 14)), 9, 12, 13, 14)
}

// 0 never is in, whatever * is.
func TestHasOfNought(t *testing.T) {
	wantHas(t, set(span(0, 0)), 0)
	wantHas(t, set(span(0, 0), span(0, 0)), 0)
	wantHas(t, set(span(0, 3)), 0, 1, 2, 3)
	wantHas(t, set(span(3, 0)), 0, 1, 2, 3)
	wantHas(t, nil, 0)
	for _, greatest := range []uint32{0, 1, 9, most} {
		for _, x := range []seqset.Span{span(0, 0), span(0, most), span(most, 0), span(1, most), span(0, 1), span(1, 0)} {
			if seqset.Has(set(x), 0, greatest) {
				t.Errorf("Has(%v, 0, %d)", x, greatest)
			}
		}
	}
}

// All of one span, and of two, about some small numbers.
func TestHasOfAllThatAreSmall(t *testing.T) {
	for number := range 6 * 6 * 6 * 6 {
		at := func(place int) uint32 { return uint32(number / place % 6) }
		l := set(span(at(1), at(6)), span(at(36), at(216)))
		for n := range uint32(8) {
			for greatest := range uint32(8) {
				for _, l := range [][]seqset.Span{l[:1], l} {
					if got := seqset.Has(l, n, greatest); got != plainHas(l, n, greatest) {
						t.Fatalf("Has(%v, %d, %d): %v", l, n, greatest, got)
					}
				}
			}
		}
	}
}

// P13.1: Pick

func TestPick(t *testing.T) {
	all := []uint32{1, 3, 5, 6, 9}
	wantPick(t, nil, all)
	wantPick(t, set(), all)
	wantPick(t, set(span(3, 3)), all, 3)
	wantPick(t, set(span(4, 4)), all)
	wantPick(t, set(span(2, 5), span(0, 0)), all, 3, 5, 9)
	wantPick(t, set(span(0, 0), span(5, 2)), all, 3, 5, 9)
	wantPick(t, set(span(1, 0)), all, all...)
	wantPick(t, set(span(0, 1)), all, all...)
	wantPick(t, set(span(1, most)), all, all...)
	wantPick(t, set(span(0, 0)), all, 9)
	wantPick(t, set(span(6, 0)), all, 6, 9)
	wantPick(t, set(span(7, 0)), all, 9)
	wantPick(t, set(span(12, 0)), all, 9)
	wantPick(t, set(span(12, 5)), all, 5, 6, 9)
	wantPick(t, set(span(10, most)), all)
	wantPick(t, set(span(7, 8), span(2, 2), span(4, 4)), all)
	wantPick(t, set(span(5, 5), span(5, 5), span(4, 6), span(6, 4)), all, 5, 6)
	wantPick(t, set(span(9, 9), span(1, 1)), all, 1, 9)
	wantPick(t, set(span(1, 9), span(5, 5), span(2, 3)), all, all...)
	wantPick(t, set(span(5, 5), span(1, 1), span(1, 6), span(3, 3)), all, 1, 3, 5, 6)
}

func TestPickOfNone(t *testing.T) {
	for _, l := range [][]seqset.Span{nil, {}, {span(0, 0)}, {span(1, 0)}, {span(1, most)}, {span(0, most), span(3, 3)}} {
		wantPick(t, l, nil)
		wantPick(t, l, []uint32{})
	}
}

func TestPickOfOne(t *testing.T) {
	for _, n := range []uint32{1, 2, 1 << 31, most - 1, most} {
		all := []uint32{n}
		wantPick(t, set(span(0, 0)), all, n)
		wantPick(t, set(span(n, n)), all, n)
		wantPick(t, set(span(1, 0)), all, n)
		wantPick(t, set(span(0, most)), all, n)
		wantPick(t, set(span(n-1, n-1), span(n+1, n+1)), all, plainPick(set(span(n-1, n-1), span(n+1, n+1)), all)...)
	}
}

func TestPickAtTheLastNumbers(t *testing.T) {
	all := []uint32{1, most - 2, most - 1, most}
	wantPick(t, set(span(0, 0)), all, most)
	wantPick(t, set(span(most, most)), all, most)
	wantPick(t, set(span(most-1, most-2)), all, most-2, most-1)
	wantPick(t, set(span(2, 0)), all, most-2, most-1, most)
	wantPick(t, set(span(1, 1<<31)), all, 1)
	wantPick(t, set(span(1<<31, most-2)), all, most-2)
}

// 0 is never picked, though it is a rising number.
func TestPickOfNought(t *testing.T) {
	wantPick(t, set(span(0, 0)), []uint32{0})
	wantPick(t, set(span(0, 4)), []uint32{0})
	wantPick(t, set(span(1, 0), span(0, 0)), []uint32{0, 1, 2}, 1, 2)
	wantPick(t, set(span(1, most)), []uint32{0, 1, most}, 1, most)
}

// All lists of numbers up to 6 that rise, and all of two spans.
func TestPickOfAllThatAreSmall(t *testing.T) {
	for bits := range 1 << 7 {
		var all []uint32
		for n := range uint32(7) {
			if bits>>n&1 == 1 {
				all = append(all, n)
			}
		}
		for number := range 6 * 6 * 6 * 6 {
			at := func(place int) uint32 { return uint32(number / place % 6) }
			l := set(span(at(1), at(6)), span(at(36), at(216)))
			wantPick(t, l, all, plainPick(l, all)...)
		}
	}
}

func randomSpans(r *rand.Rand, n int, below uint32) []seqset.Span {
	l := make([]seqset.Span, n)
	for i := range l {
		l[i] = span(r.Uint32()%below, r.Uint32()%below)
		switch r.Intn(6) {
		case 0:
			l[i].From = 0
		case 1:
			l[i].To = 0
		case 2, 3:
			l[i].To = l[i].From
		}
	}
	return l
}

func TestPickAtRandom(t *testing.T) {
	r := rand.New(rand.NewSource(1313))
	in, out := 0, 0
	for range 20000 {
		below := uint32(most) >> r.Intn(28)
		l := randomSpans(r, r.Intn(6), below)
		all := make([]uint32, r.Intn(40))
		for i := range all {
			all[i] = r.Uint32() % below
			if len(l) > 0 && r.Intn(3) == 0 {
				all[i] = l[0].To + uint32(r.Intn(3)) - 1
			}
		}
		slices.Sort(all)
		all = slices.Compact(all)
		want := plainPick(l, all)
		wantPick(t, l, all, want...)
		for _, n := range all {
			if greatest := all[len(all)-1]; seqset.Has(l, n, greatest) != slices.Contains(want, n) {
				t.Fatalf("Has(%v, %d, %d)", l, n, greatest)
			}
		}
		in += len(want)
		out += len(all) - len(want)
	}
	if in < 1000 || out < 1000 {
		t.Error("nearly nothing was in, or nearly nothing out:", in, out)
	}
}

// What is read is what is picked by.
func TestPickOfWhatWasRead(t *testing.T) {
	for s, want := range map[string][]uint32{
		"2:4,*": {2, 4, 11}, "1": nil, "*": {11}, "*:*": {11}, "9:*": {9, 11}, "*:9": {9, 11}, "4294967295": nil, "4294967295:*": {11}, "4294967295:7": {7, 9, 11}, "9,2": {2, 9}, "3:5,4:8": {4, 7}, "1:*": {2, 4, 7, 9, 11},
	} {
		l, ok := seqset.Parse(s)
		if !ok {
			t.Error(s)
		}
		wantPick(t, l, []uint32{2, 4, 7, 9, 11}, want...)
	}
}

// R1: it ends, not only after an age, and of whatever it is given: here neither the numbers rise nor are the spans few.
func TestPickEnds(t *testing.T) {
	r := rand.New(rand.NewSource(131313))
	all := make([]uint32, 1<<20)
	for i := range all {
		all[i] = r.Uint32()
	}
	since := time.Now()
	for _, below := range []uint32{1, 2, 1 << 10, most} {
		l := randomSpans(r, 1<<20, below)
		seqset.Pick(l, all)
		seqset.Has(l, most, most)
	}
	if took := time.Since(since); took > time.Minute {
		t.Error("it took", took)
	}
	wantPick(t, set(span(0, 0), span(5, 7)), []uint32{9, 7, 3, 0, 7, 5, 4, 3}, 7, 3, 7, 5, 3)
}

// R3: what is handed in stays as it is, spare room too, and an answer is new memory.
func TestPickMemory(t *testing.T) {
	spans := set(span(9, 4), span(0, 2), span(3, 3), span(70, 60), span(80, 80))
	numbers := []uint32{1, 3, 5, 6, 9, 70, 80}
	l, all := spans[:3], numbers[:5]
	first, second := seqset.Pick(l, all), seqset.Pick(l, all)
	seqset.Has(l, 5, 9)
	for i := range first[:cap(first)] {
		first[:cap(first)][i] = 77
	}
	if !slices.Equal(spans, set(span(9, 4), span(0, 2), span(3, 3), span(70, 60), span(80, 80))) || !slices.Equal(numbers, []uint32{1, 3, 5, 6, 9, 70, 80}) {
		t.Error("what was handed in, or spare room of it, was changed:", spans, numbers)
	}
	clear(spans)
	clear(numbers)
	if !slices.Equal(second, []uint32{3, 5, 6, 9}) {
		t.Error("an answer shares memory:", second)
	}
	// Where all are picked, too.
	all = []uint32{1, 2, 3}
	seqset.Pick(set(span(1, 0)), all)[0] = 77
	if all[0] != 1 {
		t.Error("an answer shares memory with what was handed in")
	}
}
