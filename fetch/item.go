package fetch

import (
	"strconv"

	"cubby/api"
	"cubby/date"
	"cubby/flag"
	"cubby/head"
)

// The items' kinds, as layer 16 counts them; the last three are the sections.
const (
	theUID = iota + 1
	theFlags
	theDate
	theSize
	theEnvelope
	theOctets
	theHead
	theText
)

// tell answers the name of the kind and what m has of it; nothing of no kind.
func tell(m api.Msg, kind int) string {
	switch kind {
	case theUID:
		return "UID " + strconv.FormatUint(uint64(m.UID), 10)
	case theFlags:
		return "FLAGS " + flag.Print(m.Flags)
	case theDate:
		return `INTERNALDATE "` + date.Print(m.Date) + `"`
	case theSize:
		return "RFC822.SIZE " + strconv.Itoa(len(m.Octets))
	case theEnvelope:
		return "ENVELOPE " + Envelope(m.Octets)
	case theOctets:
		return "BODY[] " + counted(string(m.Octets))
	case theHead:
		ahead, _ := head.Cut(m.Octets)
		return "BODY[HEADER] " + counted(string(ahead))
	case theText:
		_, behind := head.Cut(m.Octets)
		return "BODY[TEXT] " + counted(string(behind))
	}
	return ""
}

func isSection(kind int) bool { return theOctets <= kind && kind <= theText }
