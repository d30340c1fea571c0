// Package disk is layer 1: files that may not survive. See shared/doc/01-disk.md.
package disk

import (
	"maps"
	"slices"
	"strings"

	"cubby/api"
)

const (
	maxCapacity = 1 << 22
	maxName     = 40
)

// file is what a disk has under a name.
type file struct {
	bytes []byte
	safe  int
	// A file without bytes may be safe, or not yet: safe alone can't tell.
	everSafe bool
}

func (f file) whollySafe() bool { return f.everSafe && f.safe == len(f.bytes) }

// made is a file that is just these bytes, all of them safe.
func made(b []byte) file {
	return file{bytes: b, safe: len(b), everSafe: true}
}

// Disk is files, a fuse, and whether the power is gone. Its zero value is a disk without any room.
type Disk struct {
	capacity int
	used     int
	files    map[string]file
	fused    bool
	fuse     int
	lost     bool
}

// New makes an empty disk.
func New(capacity int) (*Disk, api.Errno) {
	if capacity < 0 || capacity > maxCapacity {
		return nil, api.ErrArg
	}
	return &Disk{capacity: capacity}, api.OK
}

// Append lets a file grow at its end.
func (d *Disk) Append(name string, b []byte) api.Errno {
	if e := d.power(); e != api.OK {
		return e
	}
	if !isName(name) {
		return api.ErrArg
	}
	if len(b) > d.Room() {
		return api.ErrFull
	}
	if d.powerGoes() {
		if half := b[:len(b)/2]; len(half) > 0 {
			d.grow(name, half)
		}
		return api.ErrLost
	}
	d.grow(name, b)
	return api.OK
}

// Sync makes all bytes of a file safe.
func (d *Disk) Sync(name string) api.Errno {
	f, e := d.find(name)
	if e != api.OK {
		return e
	}
	if d.powerGoes() {
		return api.ErrLost
	}
	d.put(name, made(f.bytes))
	return api.OK
}

// Rename gives a wholly safe file another name, for good.
func (d *Disk) Rename(from, to string) api.Errno {
	if e := d.power(); e != api.OK {
		return e
	}
	if !isName(to) || from == to {
		return api.ErrArg
	}
	f, e := d.find(from)
	if e != api.OK {
		return e
	}
	if !f.whollySafe() {
		return api.ErrState
	}
	if d.powerGoes() {
		return api.ErrLost
	}
	d.drop(from)
	d.put(to, f)
	return api.OK
}

// Remove takes a file away, for good.
func (d *Disk) Remove(name string) api.Errno {
	if _, e := d.find(name); e != api.OK {
		return e
	}
	if d.powerGoes() {
		return api.ErrLost
	}
	d.drop(name)
	return api.OK
}

// Read answers a copy of a file's bytes.
func (d *Disk) Read(name string) ([]byte, api.Errno) {
	f, e := d.find(name)
	if e != api.OK {
		return nil, e
	}
	return copied(f.bytes), api.OK
}

// Names answers the names of all files, rising; the power needn't be there.
func (d *Disk) Names() []string {
	if d == nil {
		return nil
	}
	return slices.Sorted(maps.Keys(d.files))
}

// Safe tells whether a file is there, and would outlast a restart as it is.
func (d *Disk) Safe(name string) bool {
	if d == nil {
		return false
	}
	return d.files[name].whollySafe()
}

// Room answers how many bytes there is still room for.
func (d *Disk) Room() int {
	if d == nil {
		return 0
	}
	return d.capacity - d.used
}

// Lost tells whether the power is gone.
func (d *Disk) Lost() bool { return d != nil && d.lost }

// Fuse lets the power go at the change behind the next n, in place of an earlier fuse.
func (d *Disk) Fuse(n int) api.Errno {
	if e := d.power(); e != api.OK {
		return e
	}
	if n < 0 {
		return api.ErrArg
	}
	d.fused, d.fuse = true, n
	return api.OK
}

// Restart brings the power back: keep says how much of what wasn't safe is left.
func (d *Disk) Restart(keep []int) {
	if d == nil {
		return
	}
	nth := 0
	for _, name := range d.Names() {
		f := d.files[name]
		if f.whollySafe() {
			continue
		}
		d.cut(name, f, f.safe+kept(keep, nth, len(f.bytes)-f.safe))
		nth++
	}
	d.fused, d.fuse, d.lost = false, 0, false
}

// Harm gives a file just these bytes, safe, past the fuse.
func (d *Disk) Harm(name string, b []byte) api.Errno {
	if e := d.power(); e != api.OK {
		return e
	}
	if !isName(name) {
		return api.ErrArg
	}
	if len(b) > d.Room()+len(d.files[name].bytes) {
		return api.ErrFull
	}
	d.put(name, made(copied(b)))
	return api.OK
}

// Lose takes a file away, past the fuse.
func (d *Disk) Lose(name string) api.Errno {
	if _, e := d.find(name); e != api.OK {
		return e
	}
	d.drop(name)
	return api.OK
}

// Clone answers a disk that is as this one, and goes its own way from here on.
func (d *Disk) Clone() *Disk {
	if d == nil {
		return nil
	}
	c := *d
	c.files = make(map[string]file, len(d.files))
	for name, f := range d.files {
		f.bytes = copied(f.bytes)
		c.files[name] = f
	}
	return &c
}

// power answers why a disk can't be asked anything, if it can't.
func (d *Disk) power() api.Errno {
	if d == nil {
		return api.ErrArg
	}
	if d.lost {
		return api.ErrLost
	}
	return api.OK
}

// powerGoes counts a change, and tells whether the power goes at it. It is asked
// behind all other errors: a call that answers one of these is no change.
func (d *Disk) powerGoes() bool {
	if !d.fused {
		return false
	}
	if d.fuse > 0 {
		d.fuse--
		return false
	}
	d.lost = true
	return true
}

// find answers the file of a name, as long as there is power.
func (d *Disk) find(name string) (file, api.Errno) {
	if e := d.power(); e != api.OK {
		return file{}, e
	}
	f, ok := d.files[name]
	if !ok {
		return file{}, api.ErrNone
	}
	return f, api.OK
}

func (d *Disk) grow(name string, b []byte) {
	f := d.files[name]
	f.bytes = append(f.bytes, b...)
	d.put(name, f)
}

// cut leaves a file its first bytes, which are safe from then on, or nothing of it.
func (d *Disk) cut(name string, f file, left int) {
	if left == 0 && !f.everSafe {
		d.drop(name)
		return
	}
	d.put(name, made(f.bytes[:left]))
}

// put lays a file under a name; put and drop alone keep count of the bytes.
func (d *Disk) put(name string, f file) {
	d.drop(name)
	if d.files == nil {
		d.files = make(map[string]file)
	}
	// A name may be a small piece of a long text, which isn't to be kept for it.
	d.files[strings.Clone(name)] = f
	d.used += len(f.bytes)
}

func (d *Disk) drop(name string) {
	d.used -= len(d.files[name].bytes)
	delete(d.files, name)
}

// kept answers how many of the bytes that aren't safe a restart leaves the i-th file.
func kept(keep []int, i, bytes int) int {
	if len(keep) == 0 {
		return 0
	}
	n := keep[i%len(keep)] % (bytes + 1)
	if n < 0 {
		n += bytes + 1
	}
	return n
}

func isName(s string) bool {
	if len(s) < 1 || len(s) > maxName {
		return false
	}
	for i := range len(s) {
		c := s[i]
		if !('a' <= c && c <= 'z' || '0' <= c && c <= '9' || c == '.') {
			return false
		}
	}
	return true
}

// copied answers new memory, of no bytes too.
func copied(b []byte) []byte {
	c := make([]byte, len(b))
	copy(c, b)
	return c
}
