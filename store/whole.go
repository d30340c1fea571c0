package store

import (
	"bytes"
	"slices"

	"cubby/api"
	"cubby/disk"
	"cubby/index"
	"cubby/log"
)

// kept is a mailbox as it is kept: its number, its log, and what it is.
type kept struct {
	number int
	log    []byte
	box    api.Box
}

// Whole answers the mailbox of a number, if its three files are as they should be.
func Whole(d *disk.Disk, number int) (api.Box, api.Errno) {
	k, e := whole(d, number)
	return k.box, e
}

func whole(d *disk.Disk, number int) (kept, api.Errno) {
	b, e := d.Read(logName(number))
	if e != api.OK {
		return kept{}, e
	}
	l := log.Read(b)
	x, came := index.Of(l)
	flags, ok := flagsLike(d, number, came)
	if l.Torn != len(b) || !hasIndex(d, number, x) || !ok {
		return kept{}, api.ErrDamaged
	}
	box := log.Box(l)
	for place, mark := range flags.L {
		box.Msgs[place].Flags = mark.Flags
	}
	return kept{number: number, log: b, box: box}, api.OK
}

// hasIndex tells whether a mailbox's index is x. Of a log that isn't clean, or has no name, x is none that could be there.
func hasIndex(d *disk.Disk, number int, x index.Index) bool {
	should, e := index.PutIndex(x)
	is, _ := d.Read(indexName(number))
	return e == api.OK && bytes.Equal(is, should)
}

// flagsLike answers a mailbox's flags, and whether they are of the same messages as those that came.
func flagsLike(d *disk.Disk, number int, came index.Flags) (index.Flags, bool) {
	b, _ := d.Read(flagsName(number))
	f, e := index.GetFlags(b)
	sameUID := func(a, b index.Mark) bool { return a.UID == b.UID }
	return f, e == api.OK && f.Epoch == came.Epoch && slices.EqualFunc(f.L, came.L, sameUID)
}

// wholePlaces answers which mailboxes there are, if the store of a disk is whole.
func wholePlaces(d *disk.Disk) ([]index.Place, api.Errno) {
	if hasLeavings(d.Names()) {
		return nil, api.ErrDamaged
	}
	var places []index.Place
	for _, number := range Logs(d) {
		box, e := Whole(d, number)
		if e != api.OK {
			return nil, api.ErrDamaged
		}
		places = append(places, index.Place{Number: number, Name: box.Name})
	}
	should, e := index.PutTree(places)
	is, _ := d.Read(treeName)
	if e != api.OK || !bytes.Equal(is, should) {
		return nil, api.ErrDamaged
	}
	return places, api.OK
}

// hasLeavings tells whether there is a file that something has left behind that didn't come to its end.
func hasLeavings(names []string) bool {
	for number := range api.MaxBoxes {
		pages := slices.Contains(names, indexName(number)) || slices.Contains(names, flagsName(number))
		if pages && !slices.Contains(names, logName(number)) {
			return true
		}
	}
	return slices.Contains(names, freshName)
}

// ask answers the mailbox of a name. A disk without power says so itself, when it is read.
func (s *Store) ask(name string) (kept, api.Errno) {
	k, _, e := s.askBoth(name, name)
	return k, e
}

// askBoth asks for the names of both ahead of what they are.
func (s *Store) askBoth(from, to string) (kept, kept, api.Errno) {
	if s == nil || s.d == nil {
		return kept{}, kept{}, api.ErrArg
	}
	if s.Number(from) < 0 || s.Number(to) < 0 {
		return kept{}, kept{}, api.ErrNone
	}
	f, e := whole(s.d, s.Number(from))
	if e != api.OK || from == to {
		return f, f, e
	}
	t, e := whole(s.d, s.Number(to))
	if e != api.OK {
		return kept{}, kept{}, e
	}
	return f, t, api.OK
}
