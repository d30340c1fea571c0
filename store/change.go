package store

import (
	"slices"

	"cubby/api"
	"cubby/body"
	"cubby/disk"
	"cubby/index"
	"cubby/log"
)

// firstEpoch is that of a mailbox that there was never before.
const firstEpoch = 1

// The kinds of notes, as layer 9 tells them.
const (
	boxNote = 1 + iota
	messageNote
	goneNote
)

// change is what is written of a mailbox: what goes behind its log, frame by frame, and the pages of what the log is then.
type change struct {
	frames [][]byte
	pages
}

// pages are the two files that can be made of a log.
type pages struct {
	flags, index []byte
}

// Pages lays the pages of a log, with the flags that are told of its messages in place of those that they came with.
func Pages(d *disk.Disk, number int, l log.Log, marks []index.Mark) api.Errno {
	p, e := pagesOf(l, marks)
	if e != api.OK {
		return e
	}
	return p.lay(d, number)
}

// Begin puts a box behind a log, which is new, if there was none, and lays the pages of what it is then. A disk that can't
// be read needn't be asked why: it says so, when it is written.
func Begin(d *disk.Disk, number int, name string) api.Errno {
	before, _ := d.Read(logName(number))
	c, e := beginning(before, name)
	if e != api.OK {
		return e
	}
	return c.write(d, number)
}

// beginning answers the change by which a log, of these bytes so far, goes on as a mailbox of that name.
func beginning(before []byte, name string) (change, api.Errno) {
	frame, e := body.Frame(body.Note{Kind: boxNote, Epoch: firstEpoch, Name: name})
	if e != api.OK {
		return change{}, e
	}
	return changeOf(before, [][]byte{frame}, nil)
}

// changeOf answers the change by which these frames go behind a log.
func changeOf(before []byte, frames [][]byte, marks []index.Mark) (change, api.Errno) {
	after := slices.Concat(before, slices.Concat(frames...))
	p, e := pagesOf(log.Read(after), marks)
	if e != api.OK {
		return change{}, e
	}
	return change{frames: frames, pages: p}, api.OK
}

// pagesOf asks for the index first, so that no more messages than a mailbox may have are gone through.
func pagesOf(l log.Log, marks []index.Mark) (pages, api.Errno) {
	x, f := index.Of(l)
	indexPage, e := index.PutIndex(x)
	if e != api.OK {
		return pages{}, e
	}
	flags := flagsBy(marks)
	for place, mark := range f.L {
		if told, is := flags[mark.UID]; is {
			f.L[place].Flags = told
		}
	}
	flagsPage, e := index.PutFlags(f)
	if e != api.OK {
		return pages{}, e
	}
	return pages{flags: flagsPage, index: indexPage}, api.OK
}

// flagsBy answers the flags of each UID; of two marks of one UID the first one counts.
func flagsBy(marks []index.Mark) map[uint32]int {
	flags := map[uint32]int{}
	for _, mark := range marks {
		if _, is := flags[mark.UID]; !is {
			flags[mark.UID] = mark.Flags
		}
	}
	return flags
}

// size answers how many bytes there has to be room for.
func (c change) size() int {
	return len(slices.Concat(c.frames...)) + len(c.flags) + len(c.index)
}

func (c change) write(d *disk.Disk, number int) api.Errno {
	if e := c.grow(d, number); e != api.OK {
		return e
	}
	return c.lay(d, number)
}

// grow puts the frames behind the log, so that they stay.
func (c change) grow(d *disk.Disk, number int) api.Errno {
	for _, frame := range c.frames {
		if e := d.Append(logName(number), frame); e != api.OK {
			return e
		}
	}
	if len(c.frames) == 0 {
		return api.OK
	}
	return d.Sync(logName(number))
}

func (p pages) lay(d *disk.Disk, number int) api.Errno {
	if e := Lay(d, flagsName(number), p.flags); e != api.OK {
		return e
	}
	return Lay(d, indexName(number), p.index)
}

// become writes what a mailbox has become. On a disk without room for all of it nothing is begun.
func (s *Store) become(k kept, box api.Box, frames [][]byte) api.Errno {
	c, e := changeOf(k.log, frames, marksOf(box))
	if e == api.OK && c.size() > s.d.Room() {
		e = api.ErrFull
	}
	if e != api.OK {
		return e
	}
	return c.write(s.d, k.number)
}

func marksOf(box api.Box) []index.Mark {
	var marks []index.Mark
	for _, m := range box.Msgs {
		marks = append(marks, index.Mark{UID: m.UID, Flags: m.Flags})
	}
	return marks
}

// cameTo answers the frames of the messages that a mailbox has behind those that it had.
func cameTo(before, after api.Box) [][]byte {
	var notes []body.Note
	for _, m := range after.Msgs[len(before.Msgs):] {
		notes = append(notes, body.Note{Kind: messageNote, Epoch: after.Epoch, Name: after.Name, Msg: m})
	}
	return framesOf(notes)
}

// goneFrom answers the frames that tell of messages that are gone.
func goneFrom(box api.Box, uids []uint32) [][]byte {
	var notes []body.Note
	for _, uid := range uids {
		notes = append(notes, body.Note{Kind: goneNote, Epoch: box.Epoch, Msg: api.Msg{UID: uid}})
	}
	return framesOf(notes)
}

// framesOf takes it that the notes are formed, as those of a right mailbox are.
func framesOf(notes []body.Note) [][]byte {
	var frames [][]byte
	for _, n := range notes {
		frame, _ := body.Frame(n)
		frames = append(frames, frame)
	}
	return frames
}
