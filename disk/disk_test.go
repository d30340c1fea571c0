package disk_test

import (
	"bytes"
	"fmt"
	"math"
	"math/rand"
	"slices"
	"strings"
	"testing"

	"cubby/api"
	"cubby/disk"
)

func newDisk(t *testing.T, capacity int) *disk.Disk {
	t.Helper()
	d, e := disk.New(capacity)
	if e != api.OK || d == nil {
		t.Fatalf("New(%d): %v, %v", capacity, d, e)
	}
	return d
}

// want fails, if a call has answered another error than it should.
func want(t *testing.T, what string, got, want api.Errno) {
	t.Helper()
	if got != want {
		t.Errorf("%s: %d, want %d", what, got, want)
	}
}

func ok(t *testing.T, what string, got api.Errno) {
	t.Helper()
	want(t, what, got, api.OK)
}

// picture tells all of a disk that can be seen while it has power.
func picture(d *disk.Disk) string {
	var s strings.Builder
	fmt.Fprintf(&s, "room %d lost %v", d.Room(), d.Lost())
	for _, n := range d.Names() {
		b, e := d.Read(n)
		fmt.Fprintf(&s, " | %s %q %d %v", n, b, e, d.Safe(n))
	}
	return s.String()
}

func wantPicture(t *testing.T, what string, d *disk.Disk, want string) {
	t.Helper()
	if got := picture(d); got != want {
		t.Errorf("%s:\n got %s\nwant %s", what, got, want)
	}
}

// P1.1

func TestNewCapacity(t *testing.T) {
	for _, c := range []int{-1, math.MinInt, 1<<22 + 1, math.MaxInt} {
		if d, e := disk.New(c); d != nil || e != api.ErrArg {
			t.Errorf("New(%d): %v, %d", c, d, e)
		}
	}
	for _, c := range []int{0, 1, 1 << 22} {
		d := newDisk(t, c)
		if len(d.Names()) != 0 || d.Room() != c || d.Lost() {
			t.Errorf("New(%d): %s", c, picture(d))
		}
		want(t, "one byte too many", d.Append("a", make([]byte, c+1)), api.ErrFull)
		ok(t, "just as many", d.Append("a", make([]byte, c)))
		if d.Room() != 0 {
			t.Errorf("room of a full disk: %d", d.Room())
		}
	}
}

func TestNamesRise(t *testing.T) {
	d := newDisk(t, 100)
	for _, n := range []string{"b", "log.2", "log.10", ".", "a.b", "ab", "0", "z"} {
		ok(t, n, d.Append(n, []byte(n)))
	}
	rising := []string{".", "0", "a.b", "ab", "b", "log.10", "log.2", "z"}
	if got := d.Names(); !slices.Equal(got, rising) {
		t.Errorf("%q", got)
	}
}

func TestSafe(t *testing.T) {
	d := newDisk(t, 100)
	asked := func(what string, want bool) {
		t.Helper()
		if got := d.Safe("a"); got != want {
			t.Errorf("%s: %v", what, got)
		}
	}
	asked("not there", false)
	d.Append("a", nil)
	asked("new, without bytes", false)
	d.Sync("a")
	asked("synced, without bytes", true)
	d.Append("a", nil)
	asked("grown by nothing", true)
	d.Append("a", []byte("x"))
	asked("grown", false)
	d.Sync("a")
	asked("synced", true)
	d.Append("a", []byte("yz"))
	d.Restart([]int{1})
	asked("restarted", true)
	d.Remove("a")
	asked("removed", false)
	d.Append("a", nil)
	asked("new once more", false)
	d.Harm("a", nil)
	asked("harmed", true)
	if d.Safe("") || d.Safe("A") {
		t.Error("what is no name is safe")
	}
}

func TestRoom(t *testing.T) {
	d := newDisk(t, 20)
	asked := func(what string, want int) {
		t.Helper()
		if got := d.Room(); got != want {
			t.Errorf("%s: %d, want %d", what, got, want)
		}
	}
	d.Append("a", []byte("12345"))
	asked("append", 15)
	d.Append("a", []byte("678"))
	asked("append once more", 12)
	d.Append("a", make([]byte, 13))
	asked("append of too much", 12)
	d.Sync("a")
	asked("sync", 12)
	d.Harm("b", []byte("1234"))
	asked("harm of a new one", 8)
	d.Harm("b", []byte("12"))
	asked("harm", 10)
	d.Rename("a", "b")
	asked("rename over one", 12)
	d.Append("c", []byte("123"))
	d.Append("b", []byte("9"))
	asked("append to two", 8)
	d.Restart([]int{0, 2})
	asked("restart", 10)
	d.Remove("c")
	asked("remove", 12)
	d.Lose("b")
	asked("lose", 20)
}

func TestCloneIsByItself(t *testing.T) {
	d := newDisk(t, 50)
	ok(t, "append", d.Append("a", []byte("abc")))
	ok(t, "sync", d.Sync("a"))
	ok(t, "append", d.Append("a", []byte("d")))
	ok(t, "append", d.Append("b", nil))
	before := picture(d)
	c := d.Clone()
	wantPicture(t, "clone", c, before)

	ok(t, "append", c.Append("a", []byte("xx")))
	ok(t, "append", c.Append("new", nil))
	ok(t, "remove", c.Remove("b"))
	wantPicture(t, "what was cloned", d, before)

	ok(t, "append", d.Append("a", []byte("yy")))
	wantPicture(t, "the clone", c, `room 44 lost false | a "abcdxx" 0 false | new "" 0 false`)
	d.Restart(nil)
	wantPicture(t, "the clone behind a restart", c, `room 44 lost false | a "abcdxx" 0 false | new "" 0 false`)
}

func TestCloneHasTheFuse(t *testing.T) {
	d := newDisk(t, 50)
	ok(t, "fuse", d.Fuse(2))
	ok(t, "first change", d.Append("a", nil))
	c := d.Clone()
	ok(t, "second change", c.Append("a", nil))
	want(t, "third change", c.Append("a", nil), api.ErrLost)
	if !c.Lost() || d.Lost() {
		t.Error("the clone alone should be lost")
	}
	lost := c.Clone()
	if !lost.Lost() {
		t.Error("a lost disk's clone should be lost")
	}
	want(t, "a lost disk's clone", lost.Append("a", nil), api.ErrLost)
	lost.Restart(nil)
	if lost.Lost() || !c.Lost() {
		t.Error("the clone's clone alone should be restarted")
	}
	ok(t, "the fuse of what was cloned", d.Append("a", nil))
	want(t, "the fuse of what was cloned", d.Append("a", nil), api.ErrLost)
}

// P1.2

func TestNamesThatAre(t *testing.T) {
	good := []string{"a", "z", "0", "9", ".", "log.10", strings.Repeat("x", 40), "...", "bad.0.idx.3"}
	wrong := []string{"", strings.Repeat("x", 41), "A", "Z", "a b", "a/b", "a-b", "a_b", "ä", "a\x00", "\xff", "`", "{", "/", ":"}
	for _, n := range good {
		d := newDisk(t, 10)
		ok(t, "append "+n, d.Append(n, nil))
		ok(t, "harm "+n, d.Harm(n, nil))
		ok(t, "sync "+n, d.Sync(n))
		ok(t, "rename to other", d.Rename(n, "other"))
		ok(t, "rename to "+n, d.Rename("other", n))
	}
	d := newDisk(t, 10)
	ok(t, "harm", d.Harm("a", []byte("abc")))
	before := picture(d)
	for _, n := range wrong {
		want(t, fmt.Sprintf("append %q", n), d.Append(n, nil), api.ErrArg)
		want(t, fmt.Sprintf("append too much to %q", n), d.Append(n, make([]byte, 50)), api.ErrArg)
		want(t, fmt.Sprintf("harm %q", n), d.Harm(n, nil), api.ErrArg)
		want(t, fmt.Sprintf("harm %q by too much", n), d.Harm(n, make([]byte, 50)), api.ErrArg)
		want(t, fmt.Sprintf("rename to %q", n), d.Rename("a", n), api.ErrArg)
		want(t, fmt.Sprintf("rename none to %q", n), d.Rename("none", n), api.ErrArg)
		want(t, fmt.Sprintf("rename %q", n), d.Rename(n, "b"), api.ErrNone)
		want(t, fmt.Sprintf("sync %q", n), d.Sync(n), api.ErrNone)
		want(t, fmt.Sprintf("remove %q", n), d.Remove(n), api.ErrNone)
		want(t, fmt.Sprintf("lose %q", n), d.Lose(n), api.ErrNone)
		if b, e := d.Read(n); len(b) != 0 || e != api.ErrNone {
			t.Errorf("read %q: %q, %d", n, b, e)
		}
	}
	wantPicture(t, "behind errors", d, before)
}

func TestAppend(t *testing.T) {
	d := newDisk(t, 6)
	ok(t, "new", d.Append("a", []byte("ab")))
	ok(t, "grow", d.Append("a", []byte("cd")))
	ok(t, "another", d.Append("b", []byte("x")))
	want(t, "one too many", d.Append("a", []byte("ef")), api.ErrFull)
	want(t, "one too many for a new one", d.Append("c", []byte("ef")), api.ErrFull)
	wantPicture(t, "behind errors", d, `room 1 lost false | a "abcd" 0 false | b "x" 0 false`)
	ok(t, "the last byte", d.Append("a", []byte("e")))
	ok(t, "nothing, on a full disk", d.Append("c", nil))
	wantPicture(t, "full", d, `room 0 lost false | a "abcde" 0 false | b "x" 0 false | c "" 0 false`)
}

func TestSyncIsOfOneFile(t *testing.T) {
	d := newDisk(t, 20)
	d.Append("a", []byte("ab"))
	d.Append("b", []byte("cd"))
	ok(t, "sync", d.Sync("a"))
	ok(t, "sync of a safe one", d.Sync("a"))
	want(t, "sync of none", d.Sync("c"), api.ErrNone)
	wantPicture(t, "synced", d, `room 16 lost false | a "ab" 0 true | b "cd" 0 false`)
	d.Restart(nil)
	wantPicture(t, "restarted", d, `room 18 lost false | a "ab" 0 true`)
}

func TestRename(t *testing.T) {
	d := newDisk(t, 20)
	d.Append("a", []byte("abc"))
	d.Append("b", []byte("xy"))
	want(t, "not safe", d.Rename("a", "c"), api.ErrState)
	want(t, "none", d.Rename("z", "c"), api.ErrNone)
	want(t, "alike", d.Rename("a", "a"), api.ErrArg)
	want(t, "alike, and none", d.Rename("z", "z"), api.ErrArg)
	want(t, "not a name, not safe", d.Rename("a", "B"), api.ErrArg)
	d.Append("empty", nil)
	want(t, "never safe, without bytes", d.Rename("empty", "c"), api.ErrState)
	d.Remove("empty")
	d.Sync("a")
	d.Append("a", []byte("d"))
	want(t, "not wholly safe", d.Rename("a", "c"), api.ErrState)
	wantPicture(t, "behind errors", d, `room 14 lost false | a "abcd" 0 false | b "xy" 0 false`)
	d.Sync("a")
	ok(t, "over one that isn't safe", d.Rename("a", "b"))
	wantPicture(t, "renamed", d, `room 16 lost false | b "abcd" 0 true`)
	d.Restart(nil)
	wantPicture(t, "for good", d, `room 16 lost false | b "abcd" 0 true`)
}

func TestRemoveIsForGood(t *testing.T) {
	d := newDisk(t, 20)
	d.Append("a", []byte("abc"))
	d.Sync("a")
	ok(t, "remove", d.Remove("a"))
	want(t, "remove once more", d.Remove("a"), api.ErrNone)
	d.Append("a", []byte("xy"))
	wantPicture(t, "anew", d, `room 18 lost false | a "xy" 0 false`)
	d.Restart(nil)
	wantPicture(t, "restarted", d, `room 20 lost false`)
}

func TestHarmAndLose(t *testing.T) {
	d := newDisk(t, 10)
	d.Append("a", []byte("abcdef"))
	d.Append("b", []byte("xy"))
	want(t, "no room", d.Harm("a", make([]byte, 9)), api.ErrFull)
	want(t, "no room for a new one", d.Harm("c", make([]byte, 3)), api.ErrFull)
	wantPicture(t, "behind errors", d, `room 2 lost false | a "abcdef" 0 false | b "xy" 0 false`)
	ok(t, "in place of what was there", d.Harm("a", []byte("12345678")))
	wantPicture(t, "harmed", d, `room 0 lost false | a "12345678" 0 true | b "xy" 0 false`)
	ok(t, "a shorter one", d.Harm("a", []byte("!")))
	ok(t, "a new one", d.Harm("c", nil))
	d.Restart(nil)
	wantPicture(t, "restarted", d, `room 9 lost false | a "!" 0 true | c "" 0 true`)
	want(t, "lose none", d.Lose("b"), api.ErrNone)
	ok(t, "lose", d.Lose("a"))
	wantPicture(t, "lost", d, `room 10 lost false | c "" 0 true`)
}

// A fuse, and a restart

func TestFuseCountsChanges(t *testing.T) {
	changes := []struct {
		what string
		do   func(d *disk.Disk) api.Errno
	}{
		{"append", func(d *disk.Disk) api.Errno { return d.Append("a", []byte("de")) }},
		{"append of nothing", func(d *disk.Disk) api.Errno { return d.Append("a", nil) }},
		{"sync", func(d *disk.Disk) api.Errno { return d.Sync("a") }},
		{"sync of a safe one", func(d *disk.Disk) api.Errno { return d.Sync("b") }},
		{"rename", func(d *disk.Disk) api.Errno { return d.Rename("b", "c") }},
		{"remove", func(d *disk.Disk) api.Errno { return d.Remove("a") }},
	}
	for n := range len(changes) + 1 {
		d := newDisk(t, 50)
		d.Append("a", []byte("abc"))
		d.Harm("b", []byte("x"))
		ok(t, "fuse", d.Fuse(n))
		for i, c := range changes {
			switch got := c.do(d); {
			case i < n:
				ok(t, fmt.Sprintf("fuse %d: %s", n, c.what), got)
			default:
				want(t, fmt.Sprintf("fuse %d: %s", n, c.what), got, api.ErrLost)
			}
			if d.Lost() != (i >= n) {
				t.Errorf("fuse %d: %s: lost %v", n, c.what, d.Lost())
			}
		}
	}
}

func TestFusePassesWhatIsNoChange(t *testing.T) {
	d := newDisk(t, 10)
	d.Append("a", []byte("abc"))
	ok(t, "an earlier fuse", d.Fuse(5))
	ok(t, "fuse", d.Fuse(0))
	want(t, "fuse below 0", d.Fuse(-1), api.ErrArg)
	want(t, "fuse far below 0", d.Fuse(math.MinInt), api.ErrArg)
	d.Names()
	d.Safe("a")
	d.Room()
	d.Clone()
	if _, e := d.Read("a"); e != api.OK {
		t.Error(e)
	}
	ok(t, "harm", d.Harm("b", []byte("x")))
	ok(t, "lose", d.Lose("b"))
	want(t, "append", d.Append("A", nil), api.ErrArg)
	want(t, "append", d.Append("a", make([]byte, 8)), api.ErrFull)
	want(t, "sync", d.Sync("z"), api.ErrNone)
	want(t, "rename", d.Rename("a", "a"), api.ErrArg)
	want(t, "rename", d.Rename("z", "a"), api.ErrNone)
	want(t, "rename", d.Rename("a", "b"), api.ErrState)
	want(t, "remove", d.Remove("z"), api.ErrNone)
	if d.Lost() {
		t.Fatal("lost without a change")
	}
	want(t, "a change", d.Append("a", nil), api.ErrLost)
	if !d.Lost() {
		t.Error("not lost")
	}
}

func TestFuseFarOff(t *testing.T) {
	d := newDisk(t, 10)
	ok(t, "fuse", d.Fuse(math.MaxInt))
	for range 100 {
		ok(t, "append", d.Append("a", nil))
	}
}

func TestAppendAtTheFusePutsInHalf(t *testing.T) {
	for _, c := range []struct {
		name, b, want string
	}{
		{"old", "", `room 17 lost true old false`},
		{"old", "x", `room 17 lost true old false`},
		{"old", "xy", `room 16 lost true old false`},
		{"old", "xyzuv", `room 15 lost true old false`},
		{"new", "", `room 17 lost true old false`},
		{"new", "x", `room 17 lost true old false`},
		{"new", "xy", `room 16 lost true new false old false`},
		{"new", "xyz", `room 16 lost true new false old false`},
	} {
		d := newDisk(t, 20)
		d.Append("old", []byte("abc"))
		d.Fuse(0)
		want(t, c.b, d.Append(c.name, []byte(c.b)), api.ErrLost)
		seen := fmt.Sprintf("room %d lost %v", d.Room(), d.Lost())
		for _, n := range d.Names() {
			seen += fmt.Sprintf(" %s %v", n, d.Safe(n))
		}
		if seen != c.want {
			t.Errorf("%s %q: %s, want %s", c.name, c.b, seen, c.want)
		}
		d.Restart([]int{-1})
		all := map[string]string{"old": "abc"}
		all[c.name] += c.b[:len(c.b)/2]
		for n, b := range all {
			if got, e := d.Read(n); string(got) != b || (e == api.OK) != (b != "") {
				t.Errorf("%s %q: %s is %q, %d", c.name, c.b, n, got, e)
			}
		}
	}
}

func TestOthersAtTheFuseDoNothing(t *testing.T) {
	for what, do := range map[string]func(d *disk.Disk) api.Errno{
		"sync":            func(d *disk.Disk) api.Errno { return d.Sync("a") },
		"rename":          func(d *disk.Disk) api.Errno { return d.Rename("b", "c") },
		"rename over one": func(d *disk.Disk) api.Errno { return d.Rename("b", "a") },
		"remove":          func(d *disk.Disk) api.Errno { return d.Remove("b") },
	} {
		d := newDisk(t, 20)
		d.Append("a", []byte("abc"))
		d.Harm("b", []byte("x"))
		d.Fuse(0)
		want(t, what, do(d), api.ErrLost)
		if d.Safe("a") || !d.Safe("b") || d.Room() != 16 {
			t.Errorf("%s: %v %v %d", what, d.Safe("a"), d.Safe("b"), d.Room())
		}
		d.Restart([]int{2})
		wantPicture(t, what, d, `room 17 lost false | a "ab" 0 true | b "x" 0 true`)
	}
}

func TestAllIsLostTillARestart(t *testing.T) {
	d := newDisk(t, 20)
	d.Harm("a", []byte("abc"))
	d.Fuse(0)
	want(t, "sync", d.Sync("a"), api.ErrLost)
	for range 2 {
		want(t, "append", d.Append("a", nil), api.ErrLost)
		want(t, "append to no name", d.Append("", nil), api.ErrLost)
		want(t, "append of too much", d.Append("a", make([]byte, 50)), api.ErrLost)
		want(t, "sync", d.Sync("a"), api.ErrLost)
		want(t, "sync of none", d.Sync("z"), api.ErrLost)
		want(t, "rename", d.Rename("a", "b"), api.ErrLost)
		want(t, "rename, alike", d.Rename("a", "a"), api.ErrLost)
		want(t, "remove", d.Remove("a"), api.ErrLost)
		want(t, "remove none", d.Remove("z"), api.ErrLost)
		want(t, "fuse", d.Fuse(1), api.ErrLost)
		want(t, "fuse below 0", d.Fuse(-1), api.ErrLost)
		want(t, "harm", d.Harm("a", nil), api.ErrLost)
		want(t, "harm of no name", d.Harm("", nil), api.ErrLost)
		want(t, "lose", d.Lose("a"), api.ErrLost)
		want(t, "lose none", d.Lose("z"), api.ErrLost)
		for _, n := range []string{"a", "z"} {
			if b, e := d.Read(n); len(b) != 0 || e != api.ErrLost {
				t.Errorf("read %s: %q, %d", n, b, e)
			}
		}
	}
	if !slices.Equal(d.Names(), []string{"a"}) || !d.Safe("a") || d.Room() != 17 || !d.Lost() {
		t.Errorf("%q %v %d %v", d.Names(), d.Safe("a"), d.Room(), d.Lost())
	}
	d.Restart(nil)
	wantPicture(t, "restarted", d, `room 17 lost false | a "abc" 0 true`)
	for range 5 {
		ok(t, "no fuse", d.Sync("a"))
	}
}

func TestRestartEndsAFuse(t *testing.T) {
	d := newDisk(t, 20)
	ok(t, "fuse", d.Fuse(1))
	d.Restart(nil)
	for range 5 {
		ok(t, "no fuse", d.Append("a", nil))
	}
}

func TestRestartKeeps(t *testing.T) {
	for _, c := range []struct {
		keep []int
		want string
	}{
		// c is wholly safe, and b has nothing to lose but itself: b counts, c doesn't.
		{nil, `room 36 lost false | a "12" 0 true | c "!!" 0 true | e "" 0 true`},
		{[]int{}, `room 36 lost false | a "12" 0 true | c "!!" 0 true | e "" 0 true`},
		{[]int{1}, `room 33 lost false | a "123" 0 true | c "!!" 0 true | d "x" 0 true | e "p" 0 true`},
		{[]int{3, 7, 3, 1}, `room 29 lost false | a "12345" 0 true | c "!!" 0 true | d "xyz" 0 true | e "p" 0 true`},
		{[]int{4, 0, 4, 2}, `room 36 lost false | a "12" 0 true | c "!!" 0 true | e "" 0 true`},
		{[]int{-1, -1, -2, -3}, `room 30 lost false | a "12345" 0 true | c "!!" 0 true | d "xy" 0 true | e "p" 0 true`},
		// From the first number on again, behind the last one.
		{[]int{2, 1}, `room 31 lost false | a "1234" 0 true | c "!!" 0 true | d "xy" 0 true | e "p" 0 true`},
		{[]int{1, 0, 0}, `room 34 lost false | a "123" 0 true | c "!!" 0 true | e "p" 0 true`},
		// More numbers than files.
		{[]int{0, 0, 2, 0, 3, 3}, `room 34 lost false | a "12" 0 true | c "!!" 0 true | d "xy" 0 true | e "" 0 true`},
		{[]int{math.MaxInt, 5, math.MinInt, 0}, `room 33 lost false | a "12345" 0 true | c "!!" 0 true | e "" 0 true`},
	} {
		d := newDisk(t, 40)
		ok(t, "d", d.Append("d", []byte("xyz")))
		ok(t, "e", d.Append("e", nil))
		ok(t, "e", d.Sync("e"))
		ok(t, "e", d.Append("e", []byte("p")))
		ok(t, "c", d.Append("c", []byte("!!")))
		ok(t, "c", d.Sync("c"))
		ok(t, "b", d.Append("b", nil))
		ok(t, "a", d.Append("a", []byte("12")))
		ok(t, "a", d.Sync("a"))
		ok(t, "a", d.Append("a", []byte("345")))
		given := slices.Clone(c.keep)
		d.Restart(c.keep)
		wantPicture(t, fmt.Sprint(c.keep), d, c.want)
		if !slices.Equal(given, c.keep) {
			t.Errorf("numbers changed: %v to %v", given, c.keep)
		}
		d.Restart([]int{7, 8, 9})
		wantPicture(t, fmt.Sprint(c.keep, " twice"), d, c.want)
	}
}

func TestExample(t *testing.T) {
	d := newDisk(t, 40)
	ok(t, "append", d.Append("a", []byte("abc")))
	d.Restart(nil)
	if len(d.Names()) != 0 {
		t.Errorf("%q", d.Names())
	}
}

func TestManyFilesAreTakenInOrder(t *testing.T) {
	names := make([]string, 50)
	numbers := make([]int, 50)
	for i := range names {
		names[i] = fmt.Sprintf("f%02d", i)
		numbers[i] = i
	}
	for seed := range int64(5) {
		d := newDisk(t, 1<<22)
		for _, i := range rand.New(rand.NewSource(seed)).Perm(50) {
			ok(t, names[i], d.Append(names[i], make([]byte, 60)))
		}
		if !slices.Equal(d.Names(), names) {
			t.Fatalf("%q", d.Names())
		}
		d.Restart(numbers)
		if !slices.Equal(d.Names(), names[1:]) {
			t.Fatalf("%q", d.Names())
		}
		for i, n := range names[1:] {
			if b, e := d.Read(n); e != api.OK || len(b) != i+1 {
				t.Errorf("%s: %d bytes, %d", n, len(b), e)
			}
		}
	}
}

// The rules

func TestNilDisk(t *testing.T) {
	var d *disk.Disk
	want(t, "append", d.Append("a", []byte("b")), api.ErrArg)
	want(t, "sync", d.Sync("a"), api.ErrArg)
	want(t, "rename", d.Rename("a", "b"), api.ErrArg)
	want(t, "remove", d.Remove("a"), api.ErrArg)
	want(t, "fuse", d.Fuse(1), api.ErrArg)
	want(t, "harm", d.Harm("a", nil), api.ErrArg)
	want(t, "lose", d.Lose("a"), api.ErrArg)
	if b, e := d.Read("a"); len(b) != 0 || e != api.ErrArg {
		t.Errorf("read: %q, %d", b, e)
	}
	d.Restart([]int{1})
	if len(d.Names()) != 0 || d.Safe("a") || d.Room() != 0 || d.Lost() || d.Clone() != nil {
		t.Error("a nil disk should answer zero")
	}
}

func TestDiskThatNobodyMade(t *testing.T) {
	d := new(disk.Disk)
	wantPicture(t, "zero", d, `room 0 lost false`)
	want(t, "sync", d.Sync("a"), api.ErrNone)
	want(t, "remove", d.Remove("a"), api.ErrNone)
	want(t, "lose", d.Lose("a"), api.ErrNone)
	want(t, "rename", d.Rename("a", "b"), api.ErrNone)
	want(t, "append", d.Append("a", []byte("b")), api.ErrFull)
	ok(t, "append", d.Append("a", nil))
	ok(t, "harm", new(disk.Disk).Harm("a", nil))
	new(disk.Disk).Restart([]int{1})
	wantPicture(t, "clone", new(disk.Disk).Clone(), `room 0 lost false`)
}

func TestMemoryIsNotShared(t *testing.T) {
	d := newDisk(t, 100)
	room := []byte("abcdefgh")
	ok(t, "append", d.Append("a", room[:3]))
	ok(t, "harm", d.Harm("b", room[:3]))
	ok(t, "append", d.Append("a", []byte("123")))
	ok(t, "append", d.Append("b", []byte("123")))
	if string(room) != "abcdefgh" {
		t.Errorf("what was handed in is %q", room)
	}
	copy(room, "ZZZZZZZZ")
	shown := `room 88 lost false | a "abc123" 0 false | b "abc123" 0 false`
	wantPicture(t, "what was handed in has changed", d, shown)

	for _, n := range []string{"a", "b"} {
		one, _ := d.Read(n)
		two, _ := d.Read(n)
		full := one[:cap(one)]
		for i := range full {
			full[i] = 'Q'
		}
		if !bytes.Equal(two, []byte("abc123")) {
			t.Errorf("two answers share memory: %q", two)
		}
		ok(t, "append", d.Append(n, []byte("x")))
		if bytes.Contains(full, []byte("x")) {
			t.Errorf("an answer's spare room is the disk's: %q", full)
		}
	}
	wantPicture(t, "an answer has changed", d, `room 86 lost false | a "abc123x" 0 false | b "abc123x" 0 false`)

	names := d.Names()
	names = names[:cap(names)]
	for i := range names {
		names[i] = "q"
	}
	if got := d.Names(); !slices.Equal(got, []string{"a", "b"}) {
		t.Errorf("names share memory: %q", got)
	}
}

// The whole, against a disk that is told in the plainest way

type plainFile struct {
	name  string
	bytes string
	safe  int // -1: never
}

type plain struct {
	capacity int
	files    []plainFile
	fuse     int // -1: none
	lost     bool
}

func (p *plain) at(name string) int {
	return slices.IndexFunc(p.files, func(f plainFile) bool { return f.name == name })
}

func (p *plain) take(i int) { p.files = slices.Delete(p.files, i, i+1) }

func (p *plain) room() int {
	r := p.capacity
	for _, f := range p.files {
		r -= len(f.bytes)
	}
	return r
}

func (p *plain) lay(name, b string, safe int) {
	p.files = append(p.files, plainFile{name, b, safe})
	slices.SortFunc(p.files, func(a, b plainFile) int { return strings.Compare(a.name, b.name) })
}

func (p *plain) change(do, half func()) api.Errno {
	if p.fuse == 0 {
		p.lost = true
		half()
		return api.ErrLost
	}
	if p.fuse > 0 {
		p.fuse--
	}
	do()
	return api.OK
}

func (p *plain) appended(name, b string) api.Errno {
	if len(b) > p.room() {
		return api.ErrFull
	}
	put := func(b string) {
		if i := p.at(name); i >= 0 {
			p.files[i].bytes += b
		} else {
			p.lay(name, b, -1)
		}
	}
	return p.change(func() { put(b) }, func() {
		if len(b) > 1 {
			put(b[:len(b)/2])
		}
	})
}

func (p *plain) renamed(from, to string) api.Errno {
	i := p.at(from)
	switch {
	case from == to:
		return api.ErrArg
	case i < 0:
		return api.ErrNone
	case p.files[i].safe != len(p.files[i].bytes):
		return api.ErrState
	}
	return p.change(func() {
		b := p.files[i].bytes
		p.take(i)
		if j := p.at(to); j >= 0 {
			p.take(j)
		}
		p.lay(to, b, len(b))
	}, func() {})
}

func (p *plain) harmed(name, b string) api.Errno {
	room, i := p.room(), p.at(name)
	if i >= 0 {
		room += len(p.files[i].bytes)
	}
	if len(b) > room {
		return api.ErrFull
	}
	if i >= 0 {
		p.take(i)
	}
	p.lay(name, b, len(b))
	return api.OK
}

func (p *plain) restarted(keep []int) {
	var left []plainFile
	n := 0
	for _, f := range p.files {
		if f.safe != len(f.bytes) {
			more := len(f.bytes) - max(f.safe, 0)
			k := 0
			if len(keep) > 0 {
				k = ((keep[n%len(keep)] % (more + 1)) + more + 1) % (more + 1)
			}
			n++
			if f.safe < 0 && k == 0 {
				continue
			}
			f.bytes = f.bytes[:max(f.safe, 0)+k]
		}
		f.safe = len(f.bytes)
		left = append(left, f)
	}
	p.files, p.fuse, p.lost = left, -1, false
}

func (p *plain) picture() string {
	s := fmt.Sprintf("room %d lost %v", p.room(), p.lost)
	for _, f := range p.files {
		b, e := f.bytes, api.OK
		if p.lost {
			b, e = "", api.ErrLost
		}
		s += fmt.Sprintf(" | %s %q %d %v", f.name, b, e, f.safe == len(f.bytes))
	}
	return s
}

// step does one thing to both, and answers what it was, and what both said.
func step(r *rand.Rand, d *disk.Disk, p *plain) (string, api.Errno, api.Errno) {
	names := []string{"a", "b", "c", "new"}
	name, other := names[r.Intn(4)], names[r.Intn(4)]
	b := "abcdefghijkl"[:r.Intn(10)]
	kind := r.Intn(20)
	if kind == 0 {
		keep := make([]int, r.Intn(4))
		for i := range keep {
			keep[i] = r.Intn(20) - 10
		}
		d.Restart(keep)
		p.restarted(keep)
		return fmt.Sprint("restart ", keep), api.OK, api.OK
	}
	lost := p.lost
	expect := func(f func() api.Errno) api.Errno {
		if lost {
			return api.ErrLost
		}
		return f()
	}
	there := func(f func(i int) api.Errno) api.Errno {
		return expect(func() api.Errno {
			if i := p.at(name); i >= 0 {
				return f(i)
			}
			return api.ErrNone
		})
	}
	switch {
	case kind < 8:
		return "append " + name + " " + b, d.Append(name, []byte(b)), expect(func() api.Errno { return p.appended(name, b) })
	case kind < 12:
		return "sync " + name, d.Sync(name), there(func(i int) api.Errno {
			return p.change(func() { p.files[i].safe = len(p.files[i].bytes) }, func() {})
		})
	case kind < 15:
		return "rename " + name + " " + other, d.Rename(name, other), expect(func() api.Errno { return p.renamed(name, other) })
	case kind < 17:
		return "remove " + name, d.Remove(name), there(func(i int) api.Errno {
			return p.change(func() { p.take(i) }, func() {})
		})
	case kind == 17:
		return "harm " + name + " " + b, d.Harm(name, []byte(b)), expect(func() api.Errno { return p.harmed(name, b) })
	case kind == 18:
		return "lose " + name, d.Lose(name), there(func(i int) api.Errno { p.take(i); return api.OK })
	}
	n := r.Intn(6) - 1
	return fmt.Sprint("fuse ", n), d.Fuse(n), expect(func() api.Errno {
		if n < 0 {
			return api.ErrArg
		}
		p.fuse = n
		return api.OK
	})
}

func TestAgainstAPlainDisk(t *testing.T) {
	for seed := range int64(300) {
		r := rand.New(rand.NewSource(seed))
		p := &plain{capacity: 30, fuse: -1}
		d := newDisk(t, p.capacity)
		var told []string
		for range 150 {
			what, got, want := step(r, d, p)
			told = append(told, what)
			if got != want || picture(d) != p.picture() {
				t.Fatalf("seed %d: %s: %d, want %d\n got %s\nwant %s\nbehind %s", seed, what, got, want, picture(d), p.picture(), strings.Join(told, "; "))
			}
			if r.Intn(10) == 0 {
				d = d.Clone()
			}
		}
	}
}
