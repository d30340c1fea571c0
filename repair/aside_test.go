package repair_test

import (
	"fmt"
	"slices"
	"strings"
	"testing"
	"time"

	"cubby/api"
	"cubby/disk"
	"cubby/repair"
)

func TestAside(t *testing.T) {
	for _, c := range []struct{ names, name, to string }{
		{"a", "a", "bad.0.a"},
		{"idx.0", "idx.0", "bad.0.idx.0"},
		{"tree new log.15", "log.15", "bad.0.log.15"},
		{"a bad.0.b bad.0.aa bad.0.a.a bad.0a", "a", "bad.0.a"},
		{"a bad.00.a bad.0..a bad..a bad.a", "a", "bad.0.a"},
		{"a bad.0.a", "a", "bad.1.a"},
		{"a bad.1.a", "a", "bad.0.a"},
		{"a bad.0.a bad.1.a bad.3.a", "a", "bad.2.a"},
		{"a bad.0.a bad.1.a bad.2.a bad.3.a bad.4.a bad.5.a bad.6.a bad.7.a bad.8.a bad.9.a", "a", "bad.10.a"},
		{"a bad.0.a bad.2.a bad.10.a bad.01.a", "a", "bad.1.a"},
		{"bad.0.a", "bad.0.a", "bad.0.bad.0.a"},
		{"bad.0.a bad.0.bad.0.a", "bad.0.a", "bad.1.bad.0.a"},
		{"new", "new", "bad.0.new"},
		{".", ".", "bad.0.."},
		{strings.Repeat("z", 34), strings.Repeat("z", 34), "bad.0." + strings.Repeat("z", 34)},
	} {
		for _, b := range [][]byte{[]byte("hello"), nil} {
			for _, safe := range []bool{true, false} {
				files := map[string][]byte{}
				for _, name := range strings.Fields(c.names) {
					files[name] = []byte(name)
				}
				delete(files, c.name)
				d := diskOf(t, 1000, files)
				want(t, c.name, d.Append(c.name, b), api.OK)
				if safe {
					want(t, c.name, d.Sync(c.name), api.OK)
				}
				leave(t, d, 0)
				wantAside(t, c.name, c.to, d)
				files[c.to] = b
				files["full"], _ = d.Read("full")
				wantPicture(t, c.to, d, diskOf(t, 1000, files))
			}
		}
	}
}

// wantAside holds an Aside against its changes, wherever the power goes.
func wantAside(t *testing.T, name, to string, d *disk.Disk) {
	t.Helper()
	steps := []step{{"rename", name, to, nil}}
	if !d.Safe(name) {
		steps = append([]step{{"sync", name, "", nil}}, steps...)
	}
	for n := range len(steps) + 2 {
		for _, keep := range keeps {
			got, should := d.Clone(), d.Clone()
			got.Fuse(n)
			should.Fuse(n)
			e := inTurn(should, steps)
			want(t, fmt.Sprint(name, ", a fuse of ", n), repair.Aside(got, name), e)
			wantPicture(t, fmt.Sprint(name, ", a fuse of ", n), got, should)
			got.Restart(keep)
			should.Restart(keep)
			wantPicture(t, fmt.Sprint(name, ", restarted"), got, should)
		}
	}
	want(t, name, repair.Aside(d, name), api.OK)
}

func TestAsideAgain(t *testing.T) {
	d := diskOf(t, 1000, map[string][]byte{"x": nil})
	files := map[string][]byte{"x": nil}
	for n := range 25 {
		b := []byte{byte(n)}
		want(t, "append", d.Append("tree", b), api.OK)
		want(t, n, repair.Aside(d, "tree"), api.OK)
		files[fmt.Sprint("bad.", n, ".tree")] = b
	}
	wantPicture(t, "again", d, diskOf(t, 1000, files))
	want(t, "lose", d.Lose("bad.7.tree"), api.OK)
	want(t, "append", d.Append("tree", []byte("seven")), api.OK)
	want(t, "aside", repair.Aside(d, "tree"), api.OK)
	files["bad.7.tree"] = []byte("seven")
	wantPicture(t, "the one that was free", d, diskOf(t, 1000, files))
	want(t, "nothing more", repair.Aside(d, "tree"), api.ErrNone)
}

// A file of which a part is safe keeps all of its bytes.
func TestAsideOfHalfSafe(t *testing.T) {
	d := diskOf(t, 1000, map[string][]byte{"a": []byte("safe")})
	want(t, "append", d.Append("a", []byte(", and not")), api.OK)
	wantAside(t, "a", "bad.0.a", d)
	d.Restart(nil)
	wantPicture(t, "restarted", d, diskOf(t, 1000, map[string][]byte{"bad.0.a": []byte("safe, and not")}))
}

func TestAsideErrors(t *testing.T) {
	files := map[string][]byte{"a": []byte("x"), "bad.0.b": nil}
	d := diskOf(t, 1000, files)
	want(t, "fuse", d.Fuse(0), api.OK)
	before := d.Clone()
	for _, name := range []string{"", "b", "aa", "A", "a b", "a/b", "bad.0.a", "bad.1.b", strings.Repeat("z", 34), strings.Repeat("z", 41), strings.Repeat("z", 1<<20)} {
		want(t, name[:min(len(name), 50)], repair.Aside(d, name), api.ErrNone)
		want(t, "nil", repair.Aside(nil, name), api.ErrArg)
		want(t, "lost", repair.Aside(lostDisk(t, files), name), api.ErrLost)
	}
	want(t, "nil", repair.Aside(nil, "a"), api.ErrArg)
	want(t, "lost", repair.Aside(lostDisk(t, files), "a"), api.ErrLost)
	want(t, "no disk's value", repair.Aside(&disk.Disk{}, "a"), api.ErrNone)
	wantPicture(t, "not there", d, before)
	want(t, "the fuse is left", repair.Aside(d, "a"), api.ErrLost)
}

// Where the name would be too long nothing is done, not even a Sync.
func TestAsideOfLongNames(t *testing.T) {
	for size := 30; size <= 40; size++ {
		for k := range 2 {
			name := strings.Repeat("z", size)
			files := map[string][]byte{}
			for n := range 10 * k {
				if bad := fmt.Sprint("bad.", n, ".", name); len(bad) <= 40 {
					files[bad] = nil
				}
			}
			d := diskOf(t, 1000, files)
			want(t, "append", d.Append(name, []byte("hello")), api.OK)
			before := d.Clone()
			to := fmt.Sprint("bad.", len(files), ".", name)
			if len(to) <= 40 {
				wantAside(t, name, to, d)
				continue
			}
			want(t, to, repair.Aside(d, name), api.ErrArg)
			wantPicture(t, to, d, before)
			lost := d.Clone()
			lost.Fuse(0)
			want(t, to, repair.Aside(lost, name), api.ErrLost)
			want(t, "sync", d.Sync(name), api.OK)
			d.Fuse(0)
			want(t, to, repair.Aside(d, name), api.ErrArg)
			want(t, "the fuse is left", d.Remove(name), api.ErrLost)
		}
	}
}

func TestAsideOfMany(t *testing.T) {
	began := time.Now()
	d, _ := disk.New(1 << 22)
	for n := range 20000 {
		want(t, n, d.Harm(fmt.Sprint("bad.", n, ".a"), []byte("x")), api.OK)
	}
	want(t, "append", d.Append("a", make([]byte, 1<<21)), api.OK)
	want(t, "aside", repair.Aside(d, "a"), api.OK)
	if names := d.Names(); len(names) != 20001 || !slices.Contains(names, "bad.20000.a") {
		t.Error(len(names))
	}
	if time.Since(began) > time.Minute {
		t.Error("it took", time.Since(began))
	}
}
