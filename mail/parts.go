package mail

import (
	"bytes"
	"cmp"
	"slices"
	"strings"

	"cubby/api"
)

// own answers b in memory that nothing else has.
func own(b api.Box) api.Box {
	b.Name = strings.Clone(b.Name)
	b.Msgs = slices.Clone(b.Msgs)
	for place := range b.Msgs {
		b.Msgs[place].Octets = bytes.Clone(b.Msgs[place].Octets)
	}
	return b
}

// add puts m behind the messages of b, which is right, and whose memory is the caller's own.
func add(b *api.Box, m api.Msg) (uint32, api.Errno) {
	m.UID = b.Next
	switch {
	case !isFormed(*b, api.Msg{UID: m.UID, Date: m.Date, Flags: m.Flags}):
		return 0, api.ErrArg
	case len(m.Octets) > api.MaxOctets:
		return 0, api.ErrLong
	case len(b.Msgs) >= api.MaxMsgs:
		return 0, api.ErrMany
	case b.Next == api.MaxUID:
		return 0, api.ErrFull
	}
	m.Octets = bytes.Clone(m.Octets)
	b.Msgs = append(b.Msgs, m)
	b.Next++
	return m.UID, api.OK
}

// named tells of each message of b, which is right, whether its UID is among uids. Places are marked, so that it doesn't
// matter how often, and in what order, a message is named.
func named(b api.Box, uids []uint32) []bool {
	is := make([]bool, len(b.Msgs))
	for _, uid := range uids {
		if place, found := slices.BinarySearchFunc(b.Msgs, uid, byUID); found {
			is[place] = true
		}
	}
	return is
}

func byUID(m api.Msg, uid uint32) int { return cmp.Compare(m.UID, uid) }
