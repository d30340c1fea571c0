package body

import (
	"cubby/api"
	"cubby/date"
	"cubby/flag"
	"cubby/name"
)

// Formed tells whether a note says what one of its kind may say, and no more.
func Formed(n Note) bool {
	switch n.Kind {
	case box:
		return n.Epoch != 0 && isName(n.Name) && n.Msg.UID == 0 && saysNothing(n.Msg)
	case message:
		return n.Epoch != 0 && isName(n.Name) && n.Msg.UID != 0 && fits(n.Msg)
	case gone:
		return n.Epoch != 0 && n.Name == "" && n.Msg.UID != 0 && saysNothing(n.Msg)
	}
	return false
}

// isName tells whether s is a name as it is written, not only in other letters.
func isName(s string) bool {
	normal, ok := name.Norm(s)
	return ok && normal == s
}

// saysNothing tells whether a message has nothing but, perhaps, a UID.
func saysNothing(m api.Msg) bool {
	return m.Date == 0 && m.Flags == 0 && len(m.Octets) == 0
}

// fits tells whether all that a message has beside its UID is within its bounds.
func fits(m api.Msg) bool {
	return isTime(m.Date) && areFlags(m.Flags) && len(m.Octets) <= api.MaxOctets
}

// isTime asks for the time's text, of which there is none of what isn't one: the bounds stand in package date alone.
func isTime(t int64) bool { return date.Print(t) != "" }

// areFlags asks what would be there if these were put in place of none: formed bits alone, as package flag knows them.
func areFlags(flags int) bool { return flag.Change(0, flags, 0) == flags }
