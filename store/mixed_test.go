package store_test

import (
	"fmt"
	"math/rand"
	"slices"
	"testing"

	"cubby/api"
	"cubby/disk"
	"cubby/store"
)

type random struct{ *rand.Rand }

func (r random) name() string {
	if r.Intn(3) > 0 {
		return "INBOX"
	}
	return []string{"a", "a", "a", "b", "b", "a/b", "INBOX/c", "Z", "inbox", "a b", "", fmt.Sprint("box", r.Intn(20))}[r.Intn(12)]
}

func (r random) uids() []uint32 {
	var l []uint32
	for range r.Intn(5) {
		l = append(l, uint32(r.Intn(8)))
	}
	return l
}

func (r random) message() api.Msg {
	m := api.Msg{Date: r.Int63n(253402300800), Flags: r.Intn(32)}
	if r.Intn(9) == 0 {
		m.Date += int64(r.Intn(3)-1) << 38
	}
	if r.Intn(9) == 0 {
		m.Flags += r.Intn(5) - 2
	}
	m.Octets = make([]byte, r.Intn(60))
	r.Read(m.Octets)
	if r.Intn(9) == 0 {
		m.Octets = make([]byte, 19999+r.Intn(3))
	}
	return m
}

func (r random) call() call {
	switch r.Intn(7) {
	case 0:
		return createCall(r.name())
	case 1, 2:
		return appendCall(r.name(), r.message())
	case 3:
		return storeCall(r.name(), r.uids(), r.Intn(34)-1, r.Intn(5)-1)
	case 4:
		return expungeCall(r.name(), r.uids(), r.Intn(2) == 0)
	}
	return copyCall(r.name(), r.name(), r.uids())
}

func TestAtRandom(t *testing.T) {
	r := random{rand.New(rand.NewSource(19))}
	count := map[api.Errno]int{}
	for range 60 {
		d, _ := disk.New([]int{600, 1500, 4000, 1 << 16, 1 << 17}[r.Intn(5)])
		s, e := store.Open(d)
		want(t, "open", e, api.OK)
		m := plainStore{0: newBox("INBOX")}
		for range 80 {
			c := r.call()
			count[c.plan(m, d.Room()).e]++
			m = r.step(t, c, d, s, m)
			if t.Failed() {
				return
			}
			if r.Intn(10) == 0 {
				s = wantOpen(t, "again", d, api.OK)
			}
		}
	}
	for _, e := range []api.Errno{api.OK, api.ErrNone, api.ErrTwice, api.ErrArg, api.ErrFull, api.ErrLong} {
		if count[e] < 10 {
			t.Error("nearly none of", e, count)
		}
	}
}

// step holds a call against its plan, and now and then one of the changes at which the power goes.
func (r random) step(t *testing.T, c call, d *disk.Disk, s *store.Store, m plainStore) plainStore {
	p := c.plan(m, d.Room())
	if len(p.steps) > 0 && r.Intn(4) == 0 {
		wantLost(t, c, d, p, r.Intn(len(p.steps)))
	}
	should := d.Clone()
	want(t, c.what, inTurn(should, p.steps), api.OK)
	uids, e := c.ask(s)
	if e != p.e || !slices.Equal(uids, p.uids) {
		t.Errorf("%s: %v, %d, want %v, %d", c.what, uids, e, p.uids, p.e)
	}
	wantPicture(t, c.what, d, should)
	wantStore(t, c.what, d, s, p.after)
	return p.after
}

// Two stores of the same history answer the same.
func TestTwice(t *testing.T) {
	var seen [2][]string
	for k := range seen {
		r := random{rand.New(rand.NewSource(20))}
		d, s := opened(t, 3000, some())
		for range 200 {
			c := r.call()
			uids, e := c.ask(s)
			seen[k] = append(seen[k], fmt.Sprint(c.what, uids, e, s.Names()))
		}
		seen[k] = append(seen[k], picture(d))
	}
	if !slices.Equal(seen[0], seen[1]) {
		t.Error("they differ")
	}
}

// Whatever stands in a store's files, Open answers the store of it, or that it is damaged, and leaves it as it is.
func TestOpenAtRandom(t *testing.T) {
	r := random{rand.New(rand.NewSource(21))}
	whole := 0
	for n := range 1500 {
		d := diskOf(t, 1<<16, some().files())
		names := append(d.Names(), "new", "idx.1", "log.1", "flg.2", "bad.0.idx.0", "x")
		for range r.Intn(3) {
			r.harm(d, names[r.Intn(len(names))])
		}
		before := d.Clone()
		s, e := store.Open(d)
		wantPicture(t, n, d, before)
		asIs := true
		for name, b := range some().files() {
			got, e := d.Read(name)
			asIs = asIs && e == api.OK && saysAsMuch(name, b, got)
		}
		for _, name := range d.Names() {
			_, is := some().files()[name]
			asIs = asIs && (is || name == "bad.0.idx.0" || name == "x")
		}
		if asIs {
			whole++
			want(t, n, e, api.OK)
			wantStore(t, n, d, s, some())
		} else if e != api.ErrDamaged || s != nil {
			t.Error(n, s, e)
		}
	}
	if whole < 100 || whole > 1400 {
		t.Error("nearly all alike:", whole)
	}
}

// harm does something to a file that is no such file any more, or that it is put back.
func (r random) harm(d *disk.Disk, name string) {
	b, _ := d.Read(name)
	switch at := r.Intn(len(b) + 1); {
	case r.Intn(5) == 0:
		d.Lose(name)
	case at < len(b) && r.Intn(2) == 0:
		b[at] ^= 1 << r.Intn(8)
		d.Harm(name, b)
	case r.Intn(2) == 0:
		d.Harm(name, slices.Insert(b, at, byte(r.Intn(256))))
	default:
		d.Harm(name, b[:at])
	}
}
