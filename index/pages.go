package index

import (
	"cubby/api"
	"cubby/codec"
	"cubby/page"
)

// The kinds of pages.
const (
	indexPage = 1 + iota
	flagsPage
	treePage
)

const (
	epochSize  = 4
	uidSize    = 4
	placeSize  = 4
	countSize  = 2
	flagsSize  = 1
	numberSize = 1
	// A tree counts its mailboxes in a byte.
	treeCountSize = 1
)

// PutIndex answers an index as a page.
func PutIndex(x Index) ([]byte, api.Errno) {
	if !formedIndex(x) {
		return nil, api.ErrArg
	}
	var o codec.Out
	o.Text(x.Name)
	o.N(int64(x.Epoch), epochSize)
	o.N(int64(x.Next), uidSize)
	o.N(int64(x.Upto), placeSize)
	o.N(int64(len(x.L)), countSize)
	for _, entry := range x.L {
		o.N(int64(entry.UID), uidSize)
		o.N(int64(entry.At), placeSize)
	}
	return put(indexPage, &o)
}

// GetIndex answers the index of a page, if b is one of an index, and nothing besides.
func GetIndex(b []byte) (Index, api.Errno) {
	i, e := get(indexPage, b)
	if e != api.OK {
		return Index{}, e
	}
	var x Index
	x.Name = i.Text()
	x.Epoch = uint32(i.N(epochSize))
	x.Next = uint32(i.N(uidSize))
	x.Upto = int(i.N(placeSize))
	for n := i.N(countSize); n > 0 && !i.Bad(); n-- {
		uid := uint32(i.N(uidSize))
		x.L = append(x.L, Entry{UID: uid, At: int(i.N(placeSize))})
	}
	if !i.Done() || !formedIndex(x) {
		return Index{}, api.ErrDamaged
	}
	return x, api.OK
}

// PutFlags answers flags as a page.
func PutFlags(x Flags) ([]byte, api.Errno) {
	if !formedFlags(x) {
		return nil, api.ErrArg
	}
	var o codec.Out
	o.N(int64(x.Epoch), epochSize)
	o.N(int64(len(x.L)), countSize)
	for _, mark := range x.L {
		o.N(int64(mark.UID), uidSize)
		o.N(int64(mark.Flags), flagsSize)
	}
	return put(flagsPage, &o)
}

// GetFlags answers the flags of a page, if b is one of flags, and nothing besides.
func GetFlags(b []byte) (Flags, api.Errno) {
	i, e := get(flagsPage, b)
	if e != api.OK {
		return Flags{}, e
	}
	var x Flags
	x.Epoch = uint32(i.N(epochSize))
	for n := i.N(countSize); n > 0 && !i.Bad(); n-- {
		uid := uint32(i.N(uidSize))
		x.L = append(x.L, Mark{UID: uid, Flags: int(i.N(flagsSize))})
	}
	if !i.Done() || !formedFlags(x) {
		return Flags{}, api.ErrDamaged
	}
	return x, api.OK
}

// PutTree answers a tree as a page.
func PutTree(l []Place) ([]byte, api.Errno) {
	if !formedTree(l) {
		return nil, api.ErrArg
	}
	var o codec.Out
	o.N(int64(len(l)), treeCountSize)
	for _, place := range l {
		o.N(int64(place.Number), numberSize)
		o.Text(place.Name)
	}
	return put(treePage, &o)
}

// GetTree answers the tree of a page, if b is one of a tree, and nothing besides.
func GetTree(b []byte) ([]Place, api.Errno) {
	i, e := get(treePage, b)
	if e != api.OK {
		return nil, e
	}
	var l []Place
	for n := i.N(treeCountSize); n > 0 && !i.Bad(); n-- {
		number := int(i.N(numberSize))
		l = append(l, Place{Number: number, Name: i.Text()})
	}
	if !i.Done() || !formedTree(l) {
		return nil, api.ErrDamaged
	}
	return l, api.OK
}

func put(kind int, o *codec.Out) ([]byte, api.Errno) {
	payload, e := o.End()
	if e != api.OK {
		return nil, e
	}
	return page.Put(kind, payload)
}

// get answers what reads the payload of a page.
func get(kind int, b []byte) (*codec.In, api.Errno) {
	payload, e := page.Get(kind, b)
	if e != api.OK {
		return nil, e
	}
	return codec.NewIn(payload), api.OK
}
