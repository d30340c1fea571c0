package index_test

import (
	"bytes"
	"encoding/binary"
	"fmt"
	"hash/crc32"
	"regexp"
	"slices"
	"strconv"
	"strings"

	"cubby/api"
	"cubby/index"
)

// The chapter's words, told once more by means that the program hasn't.

const last = 1<<32 - 1

// plainPage answers a page, whatever its payload is.
func plainPage(kind byte, payload []byte) []byte {
	b := binary.BigEndian.AppendUint32([]byte{'p', 'a', 'g', kind}, uint32(len(payload)))
	b = append(b, payload...)
	return binary.BigEndian.AppendUint32(b, crc32.ChecksumIEEE(b))
}

// number answers the last bytes of a number, the greatest first.
func number(v int64, size int) []byte { return binary.BigEndian.AppendUint64(nil, uint64(v))[8-size:] }

func text(s string) []byte { return append(number(int64(len(s)), 2), s...) }

// The payloads of what is formed, or not, as far as its numbers have room.

func plainIndex(x index.Index) []byte {
	b := slices.Concat(text(x.Name), number(int64(x.Epoch), 4), number(int64(x.Next), 4), number(int64(x.Upto), 4), number(int64(len(x.L)), 2))
	for _, v := range x.L {
		b = append(append(b, number(int64(v.UID), 4)...), number(int64(v.At), 4)...)
	}
	return b
}

func plainFlags(x index.Flags) []byte {
	b := slices.Concat(number(int64(x.Epoch), 4), number(int64(len(x.L)), 2))
	for _, v := range x.L {
		b = append(append(b, number(int64(v.UID), 4)...), byte(v.Flags))
	}
	return b
}

func plainTree(l []index.Place) []byte {
	b := []byte{byte(len(l))}
	for _, v := range l {
		b = append(append(b, byte(v.Number)), text(v.Name)...)
	}
	return b
}

// What is formed.

var parts = regexp.MustCompile(`\A[A-Za-z0-9._-]+(/[A-Za-z0-9._-]+)*\z`)

func isName(s string) bool {
	return len(s) <= 60 && parts.MatchString(s) && (s == "INBOX" || strings.ToUpper(s) != "INBOX")
}

func isPlace(at int) bool { return at >= 0 && uint64(at) < 1<<32 }

func formedIndex(x index.Index) bool {
	ok := isName(x.Name) && x.Epoch >= 1 && x.Next >= 1 && isPlace(x.Upto) && len(x.L) <= 500
	for k, v := range x.L {
		ok = ok && v.UID >= 1 && isPlace(v.At) && (v.UID < x.Next || x.Next == last)
		ok = ok && (k == 0 || v.UID > x.L[k-1].UID)
	}
	return ok
}

func formedFlags(x index.Flags) bool {
	ok := x.Epoch >= 1 && len(x.L) <= 500
	for k, v := range x.L {
		ok = ok && v.UID >= 1 && v.Flags >= 0 && v.Flags <= 31 && (k == 0 || v.UID > x.L[k-1].UID)
	}
	return ok
}

func formedTree(l []index.Place) bool {
	ok, inbox := true, 0
	for k, v := range l {
		ok = ok && isName(v.Name) && v.Number >= 0 && v.Number <= 15 && (k == 0 || v.Number > l[k-1].Number)
		for _, w := range l[:k] {
			ok = ok && v.Name != w.Name
		}
		if v.Name == "INBOX" {
			inbox++
		}
	}
	return ok && inbox == 1
}

// cut takes pieces off bytes, as long as there are enough.
type cut struct {
	b     []byte
	short bool
}

func (c *cut) bytes(n int) []byte {
	if c.short || n > len(c.b) {
		c.short = true
		return make([]byte, n)
	}
	piece := c.b[:n]
	c.b = c.b[n:]
	return piece
}

func (c *cut) number(size int) int {
	return int(binary.BigEndian.Uint64(append(make([]byte, 8-size), c.bytes(size)...)))
}

func (c *cut) text() string { return string(c.bytes(c.number(2))) }

// all tells whether there was enough, and nothing more.
func (c *cut) all() bool { return !c.short && len(c.b) == 0 }

// The values of payloads, and whether these are such, formed or not.

func indexOf(payload []byte) (index.Index, bool) {
	c := &cut{b: payload}
	var x index.Index
	x.Name = c.text()
	x.Epoch, x.Next = uint32(c.number(4)), uint32(c.number(4))
	x.Upto = c.number(4)
	for n := c.number(2); n > 0 && !c.short; n-- {
		uid := uint32(c.number(4))
		x.L = append(x.L, index.Entry{UID: uid, At: c.number(4)})
	}
	return x, c.all()
}

func flagsOf(payload []byte) (index.Flags, bool) {
	c := &cut{b: payload}
	x := index.Flags{Epoch: uint32(c.number(4))}
	for n := c.number(2); n > 0 && !c.short; n-- {
		uid := uint32(c.number(4))
		x.L = append(x.L, index.Mark{UID: uid, Flags: c.number(1)})
	}
	return x, c.all()
}

func treeOf(payload []byte) ([]index.Place, bool) {
	c := &cut{b: payload}
	var l []index.Place
	for n := c.number(1); n > 0 && !c.short; n-- {
		number := c.number(1)
		l = append(l, index.Place{Number: number, Name: c.text()})
	}
	return l, c.all()
}

func sameIndex(a, b index.Index) bool {
	return a.Name == b.Name && a.Epoch == b.Epoch && a.Next == b.Next && a.Upto == b.Upto && slices.Equal(a.L, b.L)
}

func sameFlags(a, b index.Flags) bool { return a.Epoch == b.Epoch && slices.Equal(a.L, b.L) }

// kind is one of the three: what a payload's page is got as is told by the payload of that, and by whether it is zero.
type kind struct {
	what   string
	number byte
	get    func(b []byte) (payload []byte, zero bool, e api.Errno)
	formed func(payload []byte) bool
	some   [][]byte
}

func kinds() []kind {
	return []kind{{
		what: "index", number: 1,
		get: func(b []byte) ([]byte, bool, api.Errno) {
			x, e := index.GetIndex(b)
			return plainIndex(x), sameIndex(x, index.Index{}), e
		},
		formed: func(payload []byte) bool {
			x, ok := indexOf(payload)
			return ok && formedIndex(x)
		},
		some: [][]byte{plainIndex(someIndex()), plainIndex(index.Index{Name: "INBOX", Epoch: 1, Next: 1})},
	}, {
		what: "flags", number: 2,
		get: func(b []byte) ([]byte, bool, api.Errno) {
			x, e := index.GetFlags(b)
			return plainFlags(x), sameFlags(x, index.Flags{}), e
		},
		formed: func(payload []byte) bool {
			x, ok := flagsOf(payload)
			return ok && formedFlags(x)
		},
		some: [][]byte{plainFlags(someFlags()), plainFlags(index.Flags{Epoch: 1})},
	}, {
		what: "tree", number: 3,
		get: func(b []byte) ([]byte, bool, api.Errno) {
			l, e := index.GetTree(b)
			return plainTree(l), len(l) == 0, e
		},
		formed: func(payload []byte) bool {
			l, ok := treeOf(payload)
			return ok && formedTree(l)
		},
		some: [][]byte{plainTree(someTree()), plainTree([]index.Place{{Name: "INBOX"}})},
	}}
}

func someIndex() index.Index {
	return index.Index{Name: "lists/go", Epoch: 258, Next: 700, Upto: 66051, L: []index.Entry{{UID: 1, At: 51}, {UID: 2, At: 0}, {UID: 699, At: 1 << 31}}}
}

func someFlags() index.Flags {
	return index.Flags{Epoch: 258, L: []index.Mark{{UID: 1, Flags: 31}, {UID: 2}, {UID: 699, Flags: 16}}}
}

func someTree() []index.Place {
	return []index.Place{{Number: 0, Name: "a"}, {Number: 2, Name: "INBOX"}, {Number: 15, Name: "a/b.c"}}
}

// told answers the beginning of what there is to say of a value: names may be long, and of any bytes, and lists as well.
func told(v any) string {
	s := fmt.Sprint(v)
	return strconv.Quote(s[:min(len(s), 300)])
}

// roomy answers b with spare room behind it, and all of it, to be looked at later.
func roomy(b []byte) (part, whole []byte) {
	whole = append(bytes.Clone(b), bytes.Repeat([]byte{0xaa}, 100)...)
	return whole[:len(b)], whole
}

func scribble(b []byte) {
	b = b[:cap(b)]
	for n := range b {
		b[n] = 0x55
	}
}
