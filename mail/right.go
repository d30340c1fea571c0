package mail

import (
	"bytes"
	"slices"

	"cubby/api"
	"cubby/body"
)

// The kinds of notes that a mailbox is written as, as layer 9 tells them.
const (
	boxNote = 1 + iota
	messageNote
)

// Right tells whether b is as a mailbox has to be.
func Right(b api.Box) bool {
	wrong := func(m api.Msg) bool { return !isFormed(b, m) }
	return body.Formed(body.Note{Kind: boxNote, Epoch: b.Epoch, Name: b.Name}) && b.Next != 0 &&
		len(b.Msgs) <= api.MaxMsgs && rise(b) && !slices.ContainsFunc(b.Msgs, wrong)
}

// rise tells whether the UIDs rise, and are below the next one.
func rise(b api.Box) bool {
	last := uint32(0)
	for _, m := range b.Msgs {
		if m.UID <= last || m.UID >= b.Next {
			return false
		}
		last = m.UID
	}
	return true
}

// isFormed asks for the note that would tell of m in b's log: what a message may have is known there alone.
func isFormed(b api.Box, m api.Msg) bool {
	return body.Formed(body.Note{Kind: messageNote, Epoch: b.Epoch, Name: b.Name, Msg: m})
}

// Same tells whether a and b are the same, place by place.
func Same(a, b api.Box) bool {
	return a.Name == b.Name && a.Epoch == b.Epoch && a.Next == b.Next && slices.EqualFunc(a.Msgs, b.Msgs, sameMsg)
}

func sameMsg(a, b api.Msg) bool {
	return a.UID == b.UID && a.Date == b.Date && a.Flags == b.Flags && bytes.Equal(a.Octets, b.Octets)
}
