package index

import (
	"math"
	"slices"

	"cubby/api"
	"cubby/flag"
	"cubby/name"
)

const inbox = "INBOX"

func formedIndex(x Index) bool {
	return isName(x.Name) && x.Epoch != 0 && x.Next != 0 && isPlace(x.Upto) && areEntries(x.L, x.Next)
}

func areEntries(l []Entry, next uint32) bool {
	wrong := func(x Entry) bool { return !isBelow(x.UID, next) || !isPlace(x.At) }
	return len(l) <= api.MaxMsgs && rise(l, 1, uidOfEntry) && !slices.ContainsFunc(l, wrong)
}

func formedFlags(x Flags) bool {
	return x.Epoch != 0 && areMarks(x.L)
}

func areMarks(l []Mark) bool {
	wrong := func(x Mark) bool { return !areFlags(x.Flags) }
	return len(l) <= api.MaxMsgs && rise(l, 1, uidOfMark) && !slices.ContainsFunc(l, wrong)
}

func formedTree(l []Place) bool {
	wrong := func(x Place) bool { return x.Number >= api.MaxBoxes || !isName(x.Name) }
	return rise(l, 0, numberOf) && !slices.ContainsFunc(l, wrong) && areMailboxes(namesOf(l))
}

// areMailboxes tells whether no name is there twice, and INBOX is there, as it always is.
func areMailboxes(names []string) bool {
	slices.Sort(names)
	return len(slices.Compact(slices.Clone(names))) == len(names) && slices.Contains(names, inbox)
}

func namesOf(l []Place) []string {
	var names []string
	for _, x := range l {
		names = append(names, x.Name)
	}
	return names
}

func uidOfEntry(x Entry) int64 { return int64(x.UID) }

func uidOfMark(x Mark) int64 { return int64(x.UID) }

func numberOf(x Place) int64 { return int64(x.Number) }

// rise tells whether the numbers of a list rise, and the first one isn't below from.
func rise[T any](l []T, from int64, number func(T) int64) bool {
	last := from - 1
	for _, x := range l {
		n := number(x)
		if n <= last {
			return false
		}
		last = n
	}
	return true
}

// isBelow tells whether a UID may be there beside the next one. Where that is the last of all it can't rise any more, and
// may have been given itself.
func isBelow(uid, next uint32) bool { return uid < next || next == api.MaxUID }

// isPlace is asked in 64 bits, as an int may have less than a place.
func isPlace(at int) bool { return 0 <= at && int64(at) <= math.MaxUint32 }

// isName tells whether s is a name as it is written, not only in other letters.
func isName(s string) bool {
	normal, ok := name.Norm(s)
	return ok && normal == s
}

// areFlags asks what would be there if these were put in place of none: formed bits alone, as package flag knows them.
func areFlags(flags int) bool { return flag.Change(0, flags, 0) == flags }
