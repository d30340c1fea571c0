package log

import (
	"bytes"
	"math"

	"cubby/api"
	"cubby/body"
)

// Box answers the mailbox of a log. If the log isn't clean, its UIDs can't stay what they were: they are given anew, in an
// epoch of their own.
func Box(l Log) api.Box {
	box := api.Box{Name: l.Name, Epoch: l.Epoch, Next: l.Next, Msgs: messagesOf(l.Live)}
	if l.Clean {
		return box
	}
	box.Epoch = min(l.Epoch, math.MaxUint32-1) + 1
	for place := range box.Msgs {
		box.Msgs[place].UID = uint32(place) + 1
	}
	box.Next = uint32(len(box.Msgs)) + 1
	return box
}

// messagesOf answers messages whose octets are their own.
func messagesOf(live []Live) []api.Msg {
	var msgs []api.Msg
	for _, l := range live {
		m := l.Msg
		m.Octets = bytes.Clone(m.Octets)
		msgs = append(msgs, m)
	}
	return msgs
}

// Write answers a log of a mailbox.
func Write(box api.Box) ([]byte, api.Errno) {
	if !inOrder(box) {
		return nil, api.ErrArg
	}
	var b []byte
	for _, n := range notesFor(box) {
		f, e := body.Frame(n)
		if e != api.OK {
			return nil, e
		}
		b = append(b, f...)
	}
	return b, api.OK
}

// inOrder tells whether the UIDs rise, and are below the next one; it may be reached only where it can't rise any more.
func inOrder(box api.Box) bool {
	last := uint32(0)
	for _, m := range box.Msgs {
		if m.UID <= last || m.UID >= box.Next && box.Next != api.MaxUID {
			return false
		}
		last = m.UID
	}
	return true
}

// notesFor answers what a log of a mailbox says, in order. One gone stands for all UIDs ahead of the next one that no message has.
func notesFor(box api.Box) []body.Note {
	notes := []body.Note{{Kind: boxNote, Epoch: box.Epoch, Name: box.Name}}
	last := uint32(0)
	for _, m := range box.Msgs {
		notes = append(notes, body.Note{Kind: messageNote, Epoch: box.Epoch, Name: box.Name, Msg: m})
		last = m.UID
	}
	if box.Next > 0 && box.Next-1 > last {
		notes = append(notes, body.Note{Kind: goneNote, Epoch: box.Epoch, Msg: api.Msg{UID: box.Next - 1}})
	}
	return notes
}
