package repair

import (
	"bytes"
	"slices"
	"strconv"

	"cubby/api"
	"cubby/disk"
	"cubby/index"
	"cubby/log"
	"cubby/store"
)

// firstEpoch is that of a mailbox of which nothing is known.
const firstEpoch = 1

func logName(number int) string { return "log." + strconv.Itoa(number) }

func indexName(number int) string { return "idx." + strconv.Itoa(number) }

func flagsName(number int) string { return "flg." + strconv.Itoa(number) }

func lostName(number int) string { return "lost." + strconv.Itoa(number) }

// plan is how a mailbox that isn't whole is made again.
type plan struct {
	number int
	// aside are the files that are put aside, in order.
	aside []string
	// anew tells whether the log is laid anew, log what it is then.
	anew bool
	log  []byte
	// said is what the log says in the end, marks the flags that its messages had.
	said  log.Log
	marks []index.Mark
}

// planOf reads all that there is to know of a mailbox, ahead of the first change.
func planOf(d *disk.Disk, number int) (plan, api.Errno) {
	b, e := d.Read(logName(number))
	if e != api.OK {
		return plan{}, e
	}
	l := log.Read(b)
	if len(l.Live) > api.MaxMsgs {
		return plan{}, api.ErrMany
	}
	p := plan{number: number, said: l, marks: marksOf(d, number, l), anew: !isSound(l, len(b))}
	if p.anew {
		p.log, e = log.Write(boxOf(l, number))
		if e != api.OK {
			return plan{}, e
		}
		p.said = log.Read(p.log)
	}
	p.aside = p.wrongPages(d)
	return p, api.OK
}

// isSound tells whether a log of so many bytes can stay as it is. One that has a name has an epoch: a note tells both.
func isSound(l log.Log, size int) bool {
	return l.Torn == size && l.Clean && l.Name != ""
}

// boxOf answers the mailbox of a log, with a name and an epoch, though the log may tell none.
func boxOf(l log.Log, number int) api.Box {
	box := log.Box(l)
	if box.Name == "" {
		box.Name = lostName(number)
	}
	box.Epoch = max(box.Epoch, firstEpoch)
	return box
}

// marksOf answers what flags there were. Of a log that isn't clean none are known: its UIDs don't tell its messages apart.
func marksOf(d *disk.Disk, number int, l log.Log) []index.Mark {
	b, _ := d.Read(flagsName(number))
	f, e := index.GetFlags(b)
	if e != api.OK || f.Epoch != l.Epoch || !l.Clean {
		return nil
	}
	return f.L
}

// wrongPages answers which of the pages that are there can't stay. Those of a log that is laid anew were of another one.
func (p plan) wrongPages(d *disk.Disk) []string {
	x, came := index.Of(p.said)
	var names []string
	if b, e := d.Read(flagsName(p.number)); e == api.OK && (p.anew || !areFlags(b, came)) {
		names = append(names, flagsName(p.number))
	}
	if b, e := d.Read(indexName(p.number)); e == api.OK && (p.anew || !isIndex(b, x)) {
		names = append(names, indexName(p.number))
	}
	return names
}

// areFlags tells whether b is a page of flags of the same messages as those that came.
func areFlags(b []byte, came index.Flags) bool {
	sameUID := func(a, b index.Mark) bool { return a.UID == b.UID }
	f, e := index.GetFlags(b)
	return e == api.OK && f.Epoch == came.Epoch && slices.EqualFunc(f.L, came.L, sameUID)
}

// isIndex tells whether b is the page of an index, byte by byte.
func isIndex(b []byte, x index.Index) bool {
	should, e := index.PutIndex(x)
	return e == api.OK && bytes.Equal(b, should)
}

// carryOut lays the log ahead of the pages, so that these are never of a log that isn't there.
func (p plan) carryOut(d *disk.Disk) api.Errno {
	for _, name := range p.aside {
		if e := aside(d, name); e != api.OK {
			return e
		}
	}
	if p.anew {
		if e := store.Lay(d, logName(p.number), p.log); e != api.OK {
			return e
		}
	}
	return store.Pages(d, p.number, p.said, p.marks)
}
