package index_test

import (
	"bytes"
	"math"
	"math/rand"
	"slices"
	"strings"
	"testing"

	"cubby/api"
	"cubby/index"
)

// Each of these fails, if what it is given isn't put as the chapter says (or refused), or isn't got again.

func wantIndex(t *testing.T, what any, x index.Index) {
	t.Helper()
	b, e := index.PutIndex(x)
	if !formedIndex(x) {
		wantRefused(t, what, b, e)
		return
	}
	wantPut(t, what, b, e, plainPage(1, plainIndex(x)))
	if again, e := index.GetIndex(b); !sameIndex(again, x) || e != api.OK {
		t.Errorf("%v: %v is got again as %v, %d", what, told(x), told(again), e)
	}
}

func wantFlags(t *testing.T, what any, x index.Flags) {
	t.Helper()
	b, e := index.PutFlags(x)
	if !formedFlags(x) {
		wantRefused(t, what, b, e)
		return
	}
	wantPut(t, what, b, e, plainPage(2, plainFlags(x)))
	if again, e := index.GetFlags(b); !sameFlags(again, x) || e != api.OK {
		t.Errorf("%v: %v is got again as %v, %d", what, told(x), told(again), e)
	}
}

func wantTree(t *testing.T, what any, l []index.Place) {
	t.Helper()
	b, e := index.PutTree(l)
	if !formedTree(l) {
		wantRefused(t, what, b, e)
		return
	}
	wantPut(t, what, b, e, plainPage(3, plainTree(l)))
	if again, e := index.GetTree(b); !slices.Equal(again, l) || e != api.OK {
		t.Errorf("%v: %v is got again as %v, %d", what, told(l), told(again), e)
	}
}

func wantPut(t *testing.T, what any, b []byte, e api.Errno, want []byte) {
	t.Helper()
	if !bytes.Equal(b, want) || e != api.OK {
		t.Errorf("%v: %.300x, %d, want %.300x", what, b, e, want)
	}
}

func wantRefused(t *testing.T, what any, b []byte, e api.Errno) {
	t.Helper()
	if len(b) != 0 || e != api.ErrArg {
		t.Errorf("%v: %.300x, %d, want ErrArg", what, b, e)
	}
}

// wantGot fails, if bytes that are a page of that payload aren't got as that, or, of one that isn't formed, as damaged.
func (k kind) wantGot(t *testing.T, what any, payload []byte) {
	t.Helper()
	b := plainPage(k.number, payload)
	if !k.formed(payload) {
		k.wantDamaged(t, what, b)
		return
	}
	if again, _, e := k.get(b); !bytes.Equal(again, payload) || e != api.OK {
		t.Errorf("%s, %v: %.300x is got as %.300x, %d", k.what, what, payload, again, e)
	}
}

func (k kind) wantDamaged(t *testing.T, what any, b []byte) {
	t.Helper()
	if again, zero, e := k.get(b); !zero || e != api.ErrDamaged {
		t.Errorf("%s, %v: %.300x is got as %.300x, %d, want ErrDamaged", k.what, what, b, again, e)
	}
}

// P11.1, by hand

func TestPayloadsByHand(t *testing.T) {
	b, e := index.PutIndex(someIndex())
	wantPut(t, "an index", b, e, plainPage(1, []byte("\x00\x08lists/go\x00\x00\x01\x02\x00\x00\x02\xbc\x00\x01\x02\x03\x00\x03\x00\x00\x00\x01\x00\x00\x00\x33\x00\x00\x00\x02\x00\x00\x00\x00\x00\x00\x02\xbb\x80\x00\x00\x00")))
	b, e = index.PutIndex(index.Index{Name: "INBOX", Epoch: last, Next: last, Upto: last})
	wantPut(t, "an index of no messages", b, e, plainPage(1, []byte("\x00\x05INBOX\xff\xff\xff\xff\xff\xff\xff\xff\xff\xff\xff\xff\x00\x00")))
	b, e = index.PutFlags(someFlags())
	wantPut(t, "flags", b, e, plainPage(2, []byte("\x00\x00\x01\x02\x00\x03\x00\x00\x00\x01\x1f\x00\x00\x00\x02\x00\x00\x00\x02\xbb\x10")))
	b, e = index.PutFlags(index.Flags{Epoch: 1})
	wantPut(t, "flags of no messages", b, e, plainPage(2, []byte("\x00\x00\x00\x01\x00\x00")))
	b, e = index.PutTree(someTree())
	wantPut(t, "a tree", b, e, plainPage(3, []byte("\x03\x00\x00\x01a\x02\x00\x05INBOX\x0f\x00\x05a/b.c")))
	b, e = index.PutTree([]index.Place{{Name: "INBOX"}})
	wantPut(t, "a tree of INBOX", b, e, plainPage(3, []byte("\x01\x00\x00\x05INBOX")))
}

func TestNoBytes(t *testing.T) {
	for _, k := range kinds() {
		for _, none := range [][]byte{nil, {}, make([]byte, 0, 50)} {
			k.wantDamaged(t, "no bytes", none)
		}
	}
}

// P11.1, edges and wrong arguments

// names are texts, of which some are names as Norm says.
func names() []string {
	return []string{"a", "INBOX", "inbox", "Inbox", "INBOx", "inbox/a", "INBOX/a", "a/INBOX", "a/inbox", "lists/go/dev", ".", "-", "_", "Z9",
		"", "/", "a/", "/a", "a//b", "a b", "a*", "a%", "a\x00", "\x80", "\u00fc", "INBOX ", "\u0131nbox",
		strings.Repeat("a", 59), strings.Repeat("a", 60), strings.Repeat("a", 61), strings.Repeat("a/", 30) + "a", strings.Repeat("a/", 29) + "aa", strings.Repeat("a", 65535), strings.Repeat("a", 65536)}
}

// ints are places, numbers or flags, at the edges of all of these.
func ints() []int {
	return []int{0, 1, 2, 14, 15, 16, 17, 30, 31, 32, 33, 63, 255, 256, 257, 65535, 65536, math.MaxInt32, math.MaxInt32 + 1, last - 1, last, last + 1, last + 2, 1<<40 + 1, math.MaxInt,
		-1, -2, -31, -32, -256, math.MinInt32, -last, -last - 1, math.MinInt + 1, math.MinInt}
}

func uids() []uint32 {
	return []uint32{0, 1, 2, 3, 500, 501, 65535, 65536, math.MaxInt32, math.MaxInt32 + 1, last - 2, last - 1, last}
}

func TestIndexNames(t *testing.T) {
	for _, s := range names() {
		x := someIndex()
		x.Name = s
		wantIndex(t, "name", x)
	}
}

func TestIndexNumbers(t *testing.T) {
	for _, v := range uids() {
		for _, w := range uids() {
			wantIndex(t, "epoch and next", index.Index{Name: "a", Epoch: v, Next: w})
			wantIndex(t, "epoch and UID", index.Index{Name: "a", Epoch: v, Next: last, L: []index.Entry{{UID: w}}})
			wantIndex(t, "next and UID", index.Index{Name: "a", Epoch: 1, Next: v, L: []index.Entry{{UID: w}}})
			wantIndex(t, "two UIDs", index.Index{Name: "a", Epoch: 1, Next: last, L: []index.Entry{{UID: v}, {UID: w}}})
			wantIndex(t, "two UIDs, next 600", index.Index{Name: "a", Epoch: 1, Next: 600, L: []index.Entry{{UID: v}, {UID: w}}})
			wantIndex(t, "three UIDs", index.Index{Name: "a", Epoch: 1, Next: last - 1, L: []index.Entry{{UID: 2}, {UID: v}, {UID: w}}})
		}
	}
	for _, v := range uids() {
		if v > 1 {
			wantIndex(t, "up to the next one", index.Index{Name: "a", Epoch: 1, Next: v, L: []index.Entry{{UID: v - 1}}})
		}
		if v < last {
			wantIndex(t, "the one behind the next one", index.Index{Name: "a", Epoch: 1, Next: v, L: []index.Entry{{UID: v + 1}}})
		}
	}
}

func TestIndexPlaces(t *testing.T) {
	for _, at := range ints() {
		x := someIndex()
		x.Upto = at
		wantIndex(t, "upto", x)
		for k := range x.L {
			x := someIndex()
			x.L[k].At = at
			wantIndex(t, "place", x)
		}
	}
	// Places neither have to rise, nor to be below upto.
	wantIndex(t, "places that fall", index.Index{Name: "a", Epoch: 1, Next: 9, Upto: 5, L: []index.Entry{{UID: 1, At: 900}, {UID: 2, At: 7}, {UID: 3, At: 7}, {UID: 4, At: last}}})
}

func TestFlagsNumbers(t *testing.T) {
	for _, v := range uids() {
		wantFlags(t, "epoch", index.Flags{Epoch: v})
		for _, w := range uids() {
			wantFlags(t, "epoch and UID", index.Flags{Epoch: v, L: []index.Mark{{UID: w}}})
			wantFlags(t, "two UIDs", index.Flags{Epoch: 1, L: []index.Mark{{UID: v}, {UID: w}}})
			wantFlags(t, "three UIDs", index.Flags{Epoch: 1, L: []index.Mark{{UID: 2}, {UID: v}, {UID: w}}})
		}
	}
}

func TestFlagsOfMessages(t *testing.T) {
	for flags := -40; flags <= 300; flags++ {
		for k := range someFlags().L {
			x := someFlags()
			x.L[k].Flags = flags
			wantFlags(t, "flags", x)
		}
	}
	for _, flags := range ints() {
		wantFlags(t, "flags", index.Flags{Epoch: 1, L: []index.Mark{{UID: 1, Flags: flags}}})
	}
	all := api.Seen | api.Answered | api.Flagged | api.Deleted | api.Draft
	if _, e := index.PutFlags(index.Flags{Epoch: 1, L: []index.Mark{{UID: 1, Flags: all}}}); e != api.OK {
		t.Error(e)
	}
}

func TestTreeNumbers(t *testing.T) {
	for _, v := range ints() {
		wantTree(t, "a number", []index.Place{{Number: v, Name: "INBOX"}})
		for _, w := range ints() {
			wantTree(t, "two numbers", []index.Place{{Number: v, Name: "INBOX"}, {Number: w, Name: "a"}})
			wantTree(t, "three numbers", []index.Place{{Number: 1, Name: "b"}, {Number: v, Name: "a"}, {Number: w, Name: "INBOX"}})
		}
	}
}

func TestTreeNames(t *testing.T) {
	wantTree(t, "none", nil)
	wantTree(t, "none", []index.Place{})
	for _, s := range names() {
		wantTree(t, "a name", []index.Place{{Number: 3, Name: s}})
		for k := range someTree() {
			l := someTree()
			l[k].Name = s
			wantTree(t, "among others", l)
		}
	}
	for what, list := range map[string][]string{
		"twice":                    {"INBOX", "a", "a"},
		"twice, not together":      {"a", "INBOX", "a"},
		"INBOX twice":              {"INBOX", "INBOX"},
		"INBOX twice, far apart":   {"INBOX", "a", "b", "INBOX"},
		"INBOX last":               {"a", "b", "INBOX"},
		"falling":                  {"c", "b", "a", "INBOX"},
		"without INBOX":            {"a", "b"},
		"with what only has INBOX": {"INBOX/a", "a/INBOX"},
		"other letters":            {"INBOX", "a", "A"},
		"inbox beside it":          {"INBOX", "inbox"},
		"a part of another":        {"INBOX", "a/b", "a"},
	} {
		var l []index.Place
		for k, s := range list {
			l = append(l, index.Place{Number: 2 * k, Name: s})
		}
		wantTree(t, what, l)
	}
}

// The most that there may be, and one more.
func TestTheMost(t *testing.T) {
	for _, n := range []int{0, 1, 255, 256, 499, 500, 501, 502, 600, 65535, 65536, 70000, 1 << 20} {
		x := index.Index{Name: strings.Repeat("n", 60), Epoch: last, Next: last, Upto: last}
		f := index.Flags{Epoch: last}
		for k := range n {
			x.L = append(x.L, index.Entry{UID: uint32(last - n + 1 + k), At: last - k})
			f.L = append(f.L, index.Mark{UID: uint32(last - n + 1 + k), Flags: k % 32})
		}
		wantIndex(t, n, x)
		wantFlags(t, n, f)
	}
	full := []index.Place{{Number: 0, Name: "INBOX"}}
	for k := 1; k < 16; k++ {
		full = append(full, index.Place{Number: k, Name: strings.Repeat("n", 44+k)})
	}
	wantTree(t, "full", full)
	if _, e := index.PutTree(full); e != api.OK {
		t.Error(e)
	}
	wantTree(t, "one more", append(slices.Clone(full), index.Place{Number: 16, Name: "z"}))
	wantTree(t, "one more, of the last number", append(slices.Clone(full), index.Place{Number: 15, Name: "z"}))
	many := slices.Repeat(full, 1<<16)
	if b, e := index.PutTree(many); len(b) != 0 || e != api.ErrArg {
		t.Error(len(b), e)
	}
}

// Get

// Pages whose sums are right, but whose payloads say too much, too little, or what may not be.
func TestPayloadsThatAreNone(t *testing.T) {
	for _, k := range kinds() {
		for n, payload := range k.some {
			if !k.formed(payload) {
				t.Fatal(k.what, n)
			}
			k.wantGot(t, n, payload)
			for cut := range payload {
				k.wantGot(t, "cut off", payload[:cut])
				k.wantGot(t, "cut off ahead", payload[cut+1:])
			}
			for _, more := range []string{"\x00", "\xff", "\x00\x00\x00\x00\x00", "\x00\x00\x00\x09\x00\x00\x00\x09", string(payload)} {
				k.wantGot(t, "more behind", append(bytes.Clone(payload), more...))
				k.wantGot(t, "more ahead", append([]byte(more), payload...))
			}
			for at := range payload {
				for v := range 256 {
					turned := bytes.Clone(payload)
					turned[at] = byte(v)
					k.wantGot(t, "a byte turned", turned)
				}
			}
		}
		k.wantGot(t, "nothing", nil)
	}
}

func TestPayloadsByValue(t *testing.T) {
	k := kinds()
	for _, s := range names() {
		if len(s) > 65535 {
			continue
		}
		x := someIndex()
		x.Name = s
		k[0].wantGot(t, "a name", plainIndex(x))
		l := someTree()
		l[0].Name = s
		k[2].wantGot(t, "a name", plainTree(l))
		k[2].wantGot(t, "a name", plainTree([]index.Place{{Name: s}}))
	}
	for _, v := range uids() {
		for _, w := range uids() {
			k[0].wantGot(t, "next and UID", plainIndex(index.Index{Name: "a", Epoch: 1, Next: v, L: []index.Entry{{UID: w}}}))
			k[0].wantGot(t, "epoch and next", plainIndex(index.Index{Name: "a", Epoch: v, Next: w}))
			k[0].wantGot(t, "two UIDs", plainIndex(index.Index{Name: "a", Epoch: 1, Next: last, L: []index.Entry{{UID: v}, {UID: w}}}))
			k[1].wantGot(t, "two UIDs", plainFlags(index.Flags{Epoch: 1, L: []index.Mark{{UID: v}, {UID: w}}}))
			k[1].wantGot(t, "epoch and UID", plainFlags(index.Flags{Epoch: v, L: []index.Mark{{UID: w}}}))
		}
	}
	for v := range 256 {
		for w := range 256 {
			k[2].wantGot(t, "two numbers", plainTree([]index.Place{{Number: v, Name: "INBOX"}, {Number: w, Name: "a"}}))
		}
	}
	k[2].wantGot(t, "none", plainTree(nil))
	k[2].wantGot(t, "a name twice", plainTree([]index.Place{{Number: 1, Name: "INBOX"}, {Number: 2, Name: "a"}, {Number: 3, Name: "a"}}))
}

func TestPayloadsOfMany(t *testing.T) {
	k := kinds()
	for _, n := range []int{499, 500, 501, 600, 4000, 7000, 12000, 65535} {
		x := index.Index{Name: "a", Epoch: 1, Next: last}
		f := index.Flags{Epoch: 1}
		for uid := range uint32(n) {
			x.L = append(x.L, index.Entry{UID: uid + 1})
			f.L = append(f.L, index.Mark{UID: uid + 1})
		}
		k[0].wantGot(t, n, plainIndex(x))
		k[1].wantGot(t, n, plainFlags(f))
		// Told to be more than there are.
		k[0].wantGot(t, n, append(plainIndex(index.Index{Name: "a", Epoch: 1, Next: last})[:15], number(int64(n), 2)...))
		k[1].wantGot(t, n, append(number(1, 4), number(int64(n), 2)...))
	}
	for n := range 256 {
		var l []index.Place
		for v := range n {
			l = append(l, index.Place{Number: v, Name: "a" + strings.Repeat("b", v%59)})
		}
		if n > 0 {
			l[n/2].Name = "INBOX"
		}
		k[2].wantGot(t, n, plainTree(l))
		k[2].wantGot(t, n, append(number(int64(n), 1), plainTree(someTree())[1:]...))
	}
}

// Whatever becomes of a page's bytes, it isn't a page any more, or not of that kind.
func TestPagesDamaged(t *testing.T) {
	for _, k := range kinds() {
		for _, payload := range k.some {
			b := plainPage(k.number, payload)
			for bit := range 8 * len(b) {
				turned := bytes.Clone(b)
				turned[bit/8] ^= 1 << (bit % 8)
				k.wantDamaged(t, "a bit turned", turned)
			}
			for cut := range b {
				k.wantDamaged(t, "cut off", b[:cut])
				k.wantDamaged(t, "cut off ahead", b[cut+1:])
			}
			for v := range 256 {
				k.wantDamaged(t, "a byte behind", append(bytes.Clone(b), byte(v)))
				k.wantDamaged(t, "a byte ahead", append([]byte{byte(v)}, b...))
			}
			k.wantDamaged(t, "twice", slices.Concat(b, b))
			k.wantDamaged(t, "the payload alone", payload)
			for other := range 256 {
				if byte(other) != k.number {
					k.wantDamaged(t, "of another kind", plainPage(byte(other), payload))
				}
			}
		}
		for _, other := range kinds() {
			for _, payload := range other.some {
				if other.number != k.number {
					k.wantDamaged(t, "another's", plainPage(other.number, payload))
					k.wantGot(t, "another's, of this kind", payload)
				}
			}
		}
	}
}

// R4

func TestNoElements(t *testing.T) {
	want, _ := index.PutIndex(index.Index{Name: "a", Epoch: 1, Next: 1})
	for _, none := range [][]index.Entry{nil, {}, make([]index.Entry, 0, 5)} {
		x := index.Index{Name: "a", Epoch: 1, Next: 1, L: none}
		wantIndex(t, "no messages", x)
		if b, _ := index.PutIndex(x); !bytes.Equal(b, want) {
			t.Errorf("%x", b)
		}
	}
	for _, none := range [][]index.Mark{nil, {}, make([]index.Mark, 0, 5)} {
		wantFlags(t, "no messages", index.Flags{Epoch: 1, L: none})
	}
}

// R3

func TestMemoryOfPages(t *testing.T) {
	for _, k := range kinds() {
		for _, payload := range k.some {
			part, whole := roomy(plainPage(k.number, payload))
			before := bytes.Clone(whole)
			if again, _, e := k.get(part); !bytes.Equal(again, payload) || e != api.OK {
				t.Error(k.what, e)
			}
			if !bytes.Equal(whole, before) {
				t.Error(k.what, "the bytes, or their spare room, were changed")
			}
		}
	}
	part, _ := roomy(plainPage(1, plainIndex(someIndex())))
	x, _ := index.GetIndex(part)
	scribble(part)
	if !sameIndex(x, someIndex()) {
		t.Error("an index shares memory")
	}
	part, _ = roomy(plainPage(2, plainFlags(someFlags())))
	f, _ := index.GetFlags(part)
	scribble(part)
	if !sameFlags(f, someFlags()) {
		t.Error("flags share memory")
	}
	part, _ = roomy(plainPage(3, plainTree(someTree())))
	l, _ := index.GetTree(part)
	scribble(part)
	if !slices.Equal(l, someTree()) {
		t.Error("a tree shares memory")
	}
}

// withRoom answers a list with spare room behind it, in which what is given stands.
func withRoom[T any](l []T, more T) []T { return append(slices.Clone(l), more)[:len(l)] }

func TestMemoryOfValues(t *testing.T) {
	x := someIndex()
	x.L = withRoom(x.L, index.Entry{UID: 9, At: 9})
	first, _ := index.PutIndex(x)
	second, _ := index.PutIndex(x)
	scribble(first)
	if !sameIndex(x, someIndex()) || x.L[:4][3] != (index.Entry{UID: 9, At: 9}) || !bytes.Equal(second, plainPage(1, plainIndex(x))) {
		t.Error("an index was changed, or two answers share memory")
	}
	f := someFlags()
	f.L = withRoom(f.L, index.Mark{UID: 9, Flags: 9})
	first, _ = index.PutFlags(f)
	second, _ = index.PutFlags(f)
	scribble(first)
	if !sameFlags(f, someFlags()) || f.L[:4][3] != (index.Mark{UID: 9, Flags: 9}) || !bytes.Equal(second, plainPage(2, plainFlags(f))) {
		t.Error("flags were changed, or two answers share memory")
	}
	l := withRoom(someTree(), index.Place{Number: 9, Name: "z"})
	first, _ = index.PutTree(l)
	second, _ = index.PutTree(l)
	scribble(first)
	if !slices.Equal(l, someTree()) || l[:4][3] != (index.Place{Number: 9, Name: "z"}) || !bytes.Equal(second, plainPage(3, plainTree(l))) {
		t.Error("a tree was changed, or two answers share memory")
	}
}

// At random

type random struct{ *rand.Rand }

func (r random) pick(l ...int64) int64 { return l[r.Intn(len(l))] }

// uids answers numbers that mostly rise.
func (r random) uids() []uint32 {
	var l []uint32
	uid := uint32(r.pick(0, 0, 0, 0, 5, last-9))
	for range r.Intn(7) {
		uid += uint32(r.pick(1, 1, 1, 1, 1, 1, 1, 1, 1, 1, 2, 3, 300, 0))
		l = append(l, uid)
	}
	return l
}

func (r random) name() string {
	return []string{"a", "b", "INBOX", "lists/go", "c", "d", "e", "f", "a/b", "inbox", ""}[min(r.Intn(40)%11, r.Intn(11))]
}

func (r random) place() int {
	return int(r.pick(0, 1, 51, 9000, last, r.Int63n(last), r.Int63n(last), r.Int63n(last), r.Int63n(last), -1+r.Int63n(200), last-100+r.Int63n(102)))
}

func (r random) index() index.Index {
	x := index.Index{Name: r.name(), Epoch: uint32(r.pick(0, 1, 1, 2, 3, last, last)), Next: 1, Upto: r.place()}
	for _, uid := range r.uids() {
		x.L = append(x.L, index.Entry{UID: uid, At: r.place()})
		x.Next = uid + uint32(r.pick(0, 1, 1, 1, 1, 9))
	}
	if r.Intn(9) == 0 {
		x.Next = uint32(r.pick(0, last-1, last, last))
	}
	return x
}

func (r random) flags() index.Flags {
	x := index.Flags{Epoch: uint32(r.pick(0, 1, 1, 2, 3, last, last))}
	for _, uid := range r.uids() {
		x.L = append(x.L, index.Mark{UID: uid, Flags: int(r.pick(0, 1, 31, r.Int63n(32), r.Int63n(32), r.Int63n(32), r.Int63n(33), r.Int63n(32)-1))})
	}
	return x
}

func (r random) tree() []index.Place {
	var l []index.Place
	number := int(r.pick(0, 0, 0, 1, 3, -1))
	for range r.Intn(9) {
		l = append(l, index.Place{Number: number, Name: r.name()})
		number += int(r.pick(1, 1, 1, 1, 1, 1, 1, 2, 3, 0))
	}
	if len(l) > 0 {
		l[r.Intn(len(l))].Name = "INBOX"
	}
	return l
}

// turned answers bytes, of which a few are others, or gone, or more.
func (r random) turned(b []byte) []byte {
	b = bytes.Clone(b)
	for range r.Intn(3) {
		at := r.Intn(len(b) + 1)
		switch {
		case r.Intn(6) == 0:
			b = slices.Insert(b, at, byte(r.Intn(256)))
		case at < len(b) && r.Intn(5) == 0:
			b = slices.Delete(b, at, at+1)
		case at < len(b):
			b[at] = byte(r.pick(0, 1, 2, int64(b[at])+1, r.Int63n(256)))
		}
	}
	return b
}

func TestAtRandom(t *testing.T) {
	r := random{rand.New(rand.NewSource(11))}
	k := kinds()
	var formed, others [3]int
	count := func(n int, payload []byte) {
		if k[n].formed(payload) {
			formed[n]++
		} else {
			others[n]++
		}
		k[n].wantGot(t, "at random", payload)
	}
	for n := range 20000 {
		x, f, l := r.index(), r.flags(), r.tree()
		wantIndex(t, n, x)
		wantFlags(t, n, f)
		wantTree(t, n, l)
		count(0, r.turned(plainIndex(x)))
		count(1, r.turned(plainFlags(f)))
		count(2, r.turned(plainTree(l)))
		if t.Failed() {
			return
		}
	}
	for n := range k {
		if formed[n] < 1000 || others[n] < 1000 {
			t.Error("nearly nothing of a kind:", k[n].what, formed[n], others[n])
		}
	}
}
