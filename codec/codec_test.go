package codec_test

import (
	"bytes"
	"math"
	"math/rand"
	"strings"
	"testing"

	"cubby/api"
	"cubby/codec"
)

// wantEnd fails, if an Out hasn't just these bytes.
func wantEnd(t *testing.T, what string, o *codec.Out, want []byte) {
	t.Helper()
	if got, e := o.End(); !bytes.Equal(got, want) || e != api.OK {
		t.Errorf("%s: %d, %d, want %d", what, got, e, want)
	}
}

func wantSpoilt(t *testing.T, what string, o *codec.Out) {
	t.Helper()
	if got, e := o.End(); len(got) != 0 || e != api.ErrArg {
		t.Errorf("%s: %d bytes, %d, want none and ErrArg", what, len(got), e)
	}
}

// wantIn fails, if an In that isn't bad hasn't just so many bytes left.
func wantIn(t *testing.T, what string, i *codec.In, left int) {
	t.Helper()
	if i.Left() != left || i.Bad() || i.Done() != (left == 0) {
		t.Errorf("%s: left %d, bad %v, done %v; want %d left", what, i.Left(), i.Bad(), i.Done(), left)
	}
}

// wantBad fails, if an In isn't bad, or is still good for anything. It asks twice: a bad one stays so.
func wantBad(t *testing.T, what string, i *codec.In) {
	t.Helper()
	for range 2 {
		if i.Left() != 0 || !i.Bad() || i.Done() {
			t.Errorf("%s: left %d, bad %v, done %v", what, i.Left(), i.Bad(), i.Done())
		}
		wantNothing(t, what, i)
	}
}

// wantNothing fails, if an In gives anything.
func wantNothing(t *testing.T, what string, i *codec.In) {
	t.Helper()
	for _, n := range []int{0, 1, -1, 7, 8, math.MinInt, math.MaxInt} {
		if v := i.N(n); v != 0 {
			t.Errorf("%s: N(%d) is %d", what, n, v)
		}
		if b := i.Raw(n); len(b) != 0 {
			t.Errorf("%s: Raw(%d) is %d", what, n, b)
		}
	}
	if s := i.Text(); s != "" {
		t.Errorf("%s: Text is %q", what, s)
	}
}

// power answers 256 to the power of size.
func power(size int) int64 {
	p := int64(1)
	for range size {
		p *= 256
	}
	return p
}

// number answers v's bytes, the smallest found first.
func number(v int64, size int) []byte {
	b := make([]byte, size)
	for at := size - 1; at >= 0; at-- {
		b[at] = byte(v % 256)
		v /= 256
	}
	return b
}

// P3.1

func TestOutNumbers(t *testing.T) {
	for _, c := range []struct {
		v    int64
		size int
		want []byte
	}{
		{258, 3, []byte{0, 1, 2}},
		{0, 1, []byte{0}},
		{1, 1, []byte{1}},
		{127, 1, []byte{127}},
		{128, 1, []byte{128}},
		{255, 1, []byte{255}},
		{256, 2, []byte{1, 0}},
		{65535, 2, []byte{255, 255}},
		{0x010203, 3, []byte{1, 2, 3}},
		{0x80000000, 4, []byte{128, 0, 0, 0}},
		{api.MaxUID, 4, []byte{255, 255, 255, 255}},
		{0x0102030405, 5, []byte{1, 2, 3, 4, 5}},
		{0x010203040506, 6, []byte{1, 2, 3, 4, 5, 6}},
		{0x01020304050607, 7, []byte{1, 2, 3, 4, 5, 6, 7}},
		{0xfefdfcfbfaf9f8, 7, []byte{254, 253, 252, 251, 250, 249, 248}},
		{5, 7, []byte{0, 0, 0, 0, 0, 0, 5}},
	} {
		var o codec.Out
		o.N(c.v, c.size)
		wantEnd(t, "N", &o, c.want)
	}
}

func TestOutNumbersAtTheEdges(t *testing.T) {
	for size := 1; size <= 7; size++ {
		for _, v := range []int64{0, 1, power(size-1) - 1, power(size - 1), power(size)/2 - 1, power(size) / 2, power(size) - 1} {
			var o codec.Out
			o.N(v, size)
			wantEnd(t, "a number that fits", &o, number(v, size))
		}
		for _, v := range []int64{-1, -power(size), math.MinInt64, power(size), power(size) + 1, math.MaxInt64} {
			var o codec.Out
			o.N(v, size)
			wantSpoilt(t, "a number that doesn't fit", &o)
		}
	}
}

func TestOutSizes(t *testing.T) {
	for _, size := range []int{0, -1, -7, 8, 9, 16, 64, math.MinInt, math.MaxInt} {
		for _, v := range []int64{0, 1, -1, math.MaxInt64, math.MinInt64} {
			var o codec.Out
			o.N(v, size)
			wantSpoilt(t, "a size that doesn't fit", &o)
		}
	}
}

func TestOutTexts(t *testing.T) {
	for s, want := range map[string]string{
		"":             "\x00\x00",
		"ab":           "\x00\x02ab",
		"\x00":         "\x00\x01\x00",
		"\xff\xfe\n":   "\x00\x03\xff\xfe\n",
		"\u00fc\u20ac": "\x00\x05\xc3\xbc\xe2\x82\xac",
	} {
		var o codec.Out
		o.Text(s)
		wantEnd(t, "Text", &o, []byte(want))
	}
	for _, n := range []int{255, 256, 65534, 65535} {
		var o codec.Out
		s := strings.Repeat("x", n)
		o.Text(s)
		wantEnd(t, "a long text", &o, append(number(int64(n), 2), s...))
	}
	for _, n := range []int{65536, 65537, 131072, 1 << 20} {
		var o codec.Out
		o.Text(strings.Repeat("x", n))
		wantSpoilt(t, "a text that is too long", &o)
	}
}

func TestOutRaw(t *testing.T) {
	var all [256]byte
	for n := range all {
		all[n] = byte(n)
	}
	for _, b := range [][]byte{nil, {}, {0}, {1, 2, 3}, all[:], make([]byte, 65536), make([]byte, 1<<20)} {
		var o codec.Out
		o.Raw(b)
		wantEnd(t, "Raw", &o, b)
	}
}

func TestOutOneBehindTheOther(t *testing.T) {
	var o codec.Out
	wantEnd(t, "nothing", &o, nil)
	o.N(1, 1)
	o.Raw(nil)
	o.Text("")
	o.Raw([]byte{9, 8})
	o.N(258, 3)
	o.Text("ab")
	want := []byte{1, 0, 0, 9, 8, 0, 1, 2, 0, 2, 'a', 'b'}
	wantEnd(t, "all", &o, want)
	wantEnd(t, "all once more", &o, want)
	o.N(7, 2)
	wantEnd(t, "gone on behind the end", &o, append(want, 0, 7))
}

func TestOutStaysSpoilt(t *testing.T) {
	for what, spoil := range map[string]func(o *codec.Out){
		"number": func(o *codec.Out) { o.N(256, 1) },
		"below":  func(o *codec.Out) { o.N(-1, 7) },
		"size":   func(o *codec.Out) { o.N(0, 0) },
		"text":   func(o *codec.Out) { o.Text(strings.Repeat("x", 65536)) },
	} {
		var o codec.Out
		o.N(1, 1)
		o.Text("ab")
		spoil(&o)
		wantSpoilt(t, what, &o)
		wantSpoilt(t, what+", once more", &o)
		o.N(1, 1)
		wantSpoilt(t, what+", then N", &o)
		o.Text("a")
		wantSpoilt(t, what+", then Text", &o)
		o.Raw([]byte{1})
		wantSpoilt(t, what+", then Raw", &o)
		spoil(&o)
		wantSpoilt(t, what+", twice", &o)
		var other codec.Out
		other.N(1, 1)
		wantEnd(t, what+", of another", &other, []byte{1})
	}
}

// P3.2

func TestInGivesBack(t *testing.T) {
	var o codec.Out
	o.N(1, 1)
	o.Text("ab")
	o.N(258, 3)
	o.Raw([]byte{9, 0, 255})
	o.Text("")
	o.N(1<<56-1, 7)
	b, _ := o.End()
	i := codec.NewIn(b)
	wantIn(t, "at first", i, 20)
	if v := i.N(1); v != 1 {
		t.Error("first number", v)
	}
	wantIn(t, "first number", i, 19)
	if s := i.Text(); s != "ab" {
		t.Errorf("text: %q", s)
	}
	wantIn(t, "text", i, 15)
	if v := i.N(3); v != 258 {
		t.Error("second number", v)
	}
	wantIn(t, "second number", i, 12)
	if r := i.Raw(3); !bytes.Equal(r, []byte{9, 0, 255}) {
		t.Error("raw", r)
	}
	wantIn(t, "raw", i, 9)
	if s := i.Text(); s != "" {
		t.Errorf("empty text: %q", s)
	}
	wantIn(t, "empty text", i, 7)
	if v := i.N(7); v != 1<<56-1 {
		t.Error("last number", v)
	}
	wantIn(t, "all", i, 0)
	if r := i.Raw(0); len(r) != 0 {
		t.Error("raw of none", r)
	}
	wantIn(t, "raw of none at the end", i, 0)
}

func TestInNumbersAtTheEdges(t *testing.T) {
	for size := 1; size <= 7; size++ {
		for _, v := range []int64{0, 1, power(size-1) - 1, power(size - 1), power(size)/2 - 1, power(size) / 2, power(size) - 1} {
			i := codec.NewIn(append(number(v, size), 77))
			if got := i.N(size); got != v {
				t.Errorf("N(%d): %d, want %d", size, got, v)
			}
			wantIn(t, "a number, and one byte", i, 1)
		}
		for short := range size {
			i := codec.NewIn(bytes.Repeat([]byte{255}, short))
			if got := i.N(size); got != 0 {
				t.Errorf("N(%d) of %d bytes: %d", size, short, got)
			}
			wantBad(t, "a number that isn't there", i)
		}
	}
}

func TestInSizes(t *testing.T) {
	for _, size := range []int{0, -1, -7, 8, 9, 20, math.MinInt, math.MaxInt} {
		for _, n := range []int{0, 1, 20} {
			i := codec.NewIn(bytes.Repeat([]byte{1}, n))
			if got := i.N(size); got != 0 {
				t.Errorf("N(%d): %d", size, got)
			}
			wantBad(t, "a size that isn't one", i)
		}
	}
}

func TestInTexts(t *testing.T) {
	for b, want := range map[string]string{
		"\x00\x00!":                             "",
		"\x00\x02ab!":                           "ab",
		"\x00\x03\xff\x00\xfe!":                 "\xff\x00\xfe",
		"\x01\x00" + strings.Repeat("x", 257):   strings.Repeat("x", 256),
		"\xff\xff" + strings.Repeat("y", 65536): strings.Repeat("y", 65535),
	} {
		i := codec.NewIn([]byte(b))
		if got := i.Text(); got != want {
			t.Errorf("%d bytes of text, want %d", len(got), len(want))
		}
		wantIn(t, "text, and one byte", i, 1)
	}
	for _, b := range []string{
		"",
		"\x00",
		"\x02",
		"\x00\x01",
		"\x00\x03a",
		"\x00\x03ab",
		"\x01\x00a",
		"\xff\xff" + strings.Repeat("y", 65534),
	} {
		i := codec.NewIn([]byte(b))
		if got := i.Text(); got != "" {
			t.Errorf("text of %d bytes: %q", len(b), got)
		}
		wantBad(t, "a text that isn't there", i)
	}
}

func TestInRaw(t *testing.T) {
	for n := range 5 {
		i := codec.NewIn([]byte{4, 3, 2, 1})
		if got := i.Raw(n); !bytes.Equal(got, []byte{4, 3, 2, 1}[:n]) {
			t.Errorf("Raw(%d): %d", n, got)
		}
		wantIn(t, "raw", i, 4-n)
	}
	for _, n := range []int{-1, -4, math.MinInt, 5, 6, math.MaxInt} {
		i := codec.NewIn([]byte{4, 3, 2, 1})
		if got := i.Raw(n); len(got) != 0 {
			t.Errorf("Raw(%d): %d", n, got)
		}
		wantBad(t, "bytes that aren't there", i)
	}
	i := codec.NewIn([]byte{4, 3, 2, 1})
	i.N(1)
	if got := i.Raw(4); len(got) != 0 {
		t.Errorf("Raw of more than is left: %d", got)
	}
	wantBad(t, "more bytes than are left", i)
}

func TestInOfNoBytes(t *testing.T) {
	var zero codec.In
	for what, i := range map[string]*codec.In{"nil": codec.NewIn(nil), "empty": codec.NewIn([]byte{}), "zero": &zero} {
		if i == nil {
			t.Fatal(what, "NewIn answered nil")
		}
		wantIn(t, what, i, 0)
		if b := i.Raw(0); len(b) != 0 {
			t.Error(what, b)
		}
		wantIn(t, what, i, 0)
		i.N(1)
		wantBad(t, what, i)
	}
}

func TestInGivesNothingOnceBad(t *testing.T) {
	for what, ask := range map[string]func(i *codec.In){
		"number":         func(i *codec.In) { i.N(7) },
		"size 0":         func(i *codec.In) { i.N(0) },
		"size 8":         func(i *codec.In) { i.N(8) },
		"text":           func(i *codec.In) { i.Text() },
		"raw":            func(i *codec.In) { i.Raw(6) },
		"raw below zero": func(i *codec.In) { i.Raw(-1) },
	} {
		i := codec.NewIn([]byte{1, 1, 1, 1, 1, 1})
		i.N(1)
		ask(i)
		wantBad(t, what, i)
	}
}

// R1

func TestNil(t *testing.T) {
	var o *codec.Out
	o.N(1, 1)
	o.N(1, 0)
	o.Text("a")
	o.Text(strings.Repeat("x", 65536))
	o.Raw([]byte{1})
	o.Raw(nil)
	wantSpoilt(t, "a nil Out", o)
	var i *codec.In
	wantNothing(t, "a nil In", i)
	if i.Left() != 0 || i.Bad() || i.Done() {
		t.Error("a nil In:", i.Left(), i.Bad(), i.Done())
	}
}

// R2

func TestOutCopiesGoTheirOwnWays(t *testing.T) {
	for n := range 40 {
		head := bytes.Repeat([]byte{7}, n)
		var a codec.Out
		for range n {
			a.N(7, 1)
		}
		b := a
		a.N(1, 1)
		c := a
		b.N(2, 2)
		c.Text("c")
		a.N(3, 1)
		a, d := b, a
		a.N(4, 1)
		d.N(5, 1)
		b.N(256, 1)
		wantEnd(t, "a", &a, append(bytes.Clone(head), 0, 2, 4))
		wantSpoilt(t, "b", &b)
		wantEnd(t, "c", &c, append(bytes.Clone(head), 1, 0, 1, 'c'))
		wantEnd(t, "d", &d, append(bytes.Clone(head), 1, 3, 5))
	}
}

func TestInCopiesGoTheirOwnWays(t *testing.T) {
	a := codec.NewIn([]byte{1, 2, 3})
	a.N(1)
	b := *a
	b.N(3)
	if a.N(1) != 2 || a.Bad() || !b.Bad() {
		t.Error("a copy took from what it is a copy of")
	}
}

// R3

// roomy answers b with spare room behind it, and all of it, to be looked at later.
func roomy(b []byte) (part, whole []byte) {
	whole = append(bytes.Clone(b), 0xaa, 0xaa, 0xaa, 0xaa, 0xaa, 0xaa, 0xaa, 0xaa)
	return whole[:len(b)], whole
}

func scribble(b []byte) {
	b = b[:cap(b)]
	for n := range b {
		b[n] = 0x55
	}
}

func TestOutMemory(t *testing.T) {
	part, whole := roomy([]byte{1, 2, 3})
	before := bytes.Clone(whole)
	var o codec.Out
	o.Raw(part)
	o.N(4, 1)
	o.Text("ab")
	if !bytes.Equal(whole, before) {
		t.Error("Raw, or what came behind it, changed what it was given")
	}
	want := []byte{1, 2, 3, 4, 0, 2, 'a', 'b'}
	scribble(part)
	wantEnd(t, "Raw keeps what it was given", &o, want)
	first, _ := o.End()
	second, _ := o.End()
	scribble(first)
	wantEnd(t, "End hands out what is kept", &o, want)
	if !bytes.Equal(second, want) {
		t.Error("two Ends share memory")
	}
	o.N(5, 1)
	if !bytes.Equal(second, want) {
		t.Error("an Out that goes on changed what it answered")
	}
	scribble(second)
	wantEnd(t, "End hands out what is kept", &o, append(want, 5))
}

func TestInMemory(t *testing.T) {
	part, whole := roomy([]byte{1, 2, 3, 4, 0, 2, 'a', 'b', 9})
	before := bytes.Clone(whole)
	i := codec.NewIn(part)
	first := i.Raw(2)
	none := i.Raw(0)
	if !bytes.Equal(whole, before) {
		t.Error("an In changed what it was given")
	}
	scribble(part)
	second := i.Raw(2)
	if !bytes.Equal(first, []byte{1, 2}) || !bytes.Equal(second, []byte{3, 4}) {
		t.Error("an In keeps what it was given:", first, second)
	}
	scribble(first)
	scribble(none)
	if !bytes.Equal(second, []byte{3, 4}) {
		t.Error("two answers share memory")
	}
	scribble(second)
	if s := i.Text(); s != "ab" || i.N(1) != 9 || !i.Done() {
		t.Errorf("Raw hands out what is kept: %q", s)
	}
}

// Both, at random

// item is a number (of a size), a text, or bytes.
type item struct {
	kind, size int
	v          int64
	bytes      []byte
}

func randomItem(r *rand.Rand) item {
	b := make([]byte, r.Intn(20))
	if r.Intn(10) == 0 {
		b = make([]byte, r.Intn(1000))
	}
	r.Read(b)
	size := 1 + r.Intn(7)
	return item{kind: r.Intn(3), size: size, v: r.Int63n(power(size)), bytes: b}
}

func (x item) put(o *codec.Out) {
	switch x.kind {
	case 0:
		o.N(x.v, x.size)
	case 1:
		o.Text(string(x.bytes))
	case 2:
		o.Raw(x.bytes)
	}
}

func (x item) told() []byte {
	switch x.kind {
	case 0:
		return number(x.v, x.size)
	case 1:
		return append(number(int64(len(x.bytes)), 2), x.bytes...)
	}
	return x.bytes
}

func (x item) givenBy(i *codec.In) bool {
	switch x.kind {
	case 0:
		return i.N(x.size) == x.v
	case 1:
		return i.Text() == string(x.bytes)
	}
	return bytes.Equal(i.Raw(len(x.bytes)), x.bytes)
}

func TestThereAndBack(t *testing.T) {
	r := rand.New(rand.NewSource(3))
	for range 2000 {
		var o codec.Out
		var items []item
		var want []byte
		for range r.Intn(12) {
			x := randomItem(r)
			items = append(items, x)
			want = append(want, x.told()...)
			x.put(&o)
		}
		wantEnd(t, "at random", &o, want)
		i := codec.NewIn(want)
		left := len(want)
		for _, x := range items {
			if !x.givenBy(i) {
				t.Errorf("item %v isn't given back", x)
			}
			left -= len(x.told())
			wantIn(t, "at random", i, left)
		}
	}
}

func TestCutOff(t *testing.T) {
	items := []item{{kind: 0, size: 3, v: 258}, {kind: 1, bytes: []byte("abc")}, {kind: 2, bytes: []byte{1, 2}}, {kind: 0, size: 7, v: 9}}
	var all []byte
	for _, x := range items {
		all = append(all, x.told()...)
	}
	for cut := range all {
		i := codec.NewIn(all[:cut])
		end := 0
		for n, x := range items {
			end += len(x.told())
			if whole := x.givenBy(i); whole != (end <= cut) || i.Bad() != (end > cut) {
				t.Errorf("cut at %d, item %d: given %v, bad %v", cut, n, whole, i.Bad())
			}
		}
		wantBad(t, "cut off", i)
	}
}

func TestManyNumbers(t *testing.T) {
	const many = 200000
	var o codec.Out
	for n := range int64(many) {
		o.N(n, 4)
	}
	b, e := o.End()
	if len(b) != 4*many || e != api.OK {
		t.Fatal(len(b), e)
	}
	i := codec.NewIn(b)
	for n := range int64(many) {
		if v := i.N(4); v != n {
			t.Fatalf("%d, want %d", v, n)
		}
	}
	wantIn(t, "many numbers", i, 0)
}
