package repair_test

import (
	"fmt"
	"maps"
	"math/rand"
	"slices"
	"testing"

	"cubby/api"
	"cubby/disk"
	"cubby/repair"
	"cubby/store"
)

type random struct{ *rand.Rand }

// log answers frames of few epochs and UIDs, so that they meet, and now and then damage.
func (r random) log() []byte {
	var parts [][]byte
	uid, epoch := uint32(0), int64(1+r.Intn(2))
	for range r.Intn(10) {
		if uid += uint32(1 + r.Intn(2)); r.Intn(12) == 0 {
			uid = uint32(1 + r.Intn(4))
		}
		if r.Intn(25) == 0 {
			epoch = 1 + int64(r.Intn(3))
		}
		name := []string{"a", "a", "a", "INBOX", "b/c"}[r.Intn(5)]
		f := messageFrame(epoch, name, msg(uid, r.Intn(32)))
		switch r.Intn(9) {
		case 0:
			f = boxFrame(epoch, name)
		case 1, 2:
			f = goneFrame(epoch, int64(max(1, int(uid)-r.Intn(4))))
		}
		switch r.Intn(30) {
		case 0:
			f = f[:r.Intn(len(f))]
		case 1:
			f[r.Intn(len(f))] ^= 1 << r.Intn(8)
		case 2:
			f = append(f, "junk cub"[:r.Intn(9)]...)
		}
		parts = append(parts, f)
	}
	return slices.Concat(parts...)
}

// pick answers one of the pages, in an order that doesn't change.
func (r random) pick(pages map[string][]byte) []byte {
	names := slices.Sorted(maps.Keys(pages))
	if r.Intn(2) == 0 {
		return pages["right"]
	}
	return pages[names[r.Intn(len(names))]]
}

func TestAtRandom(t *testing.T) {
	r := random{rand.New(rand.NewSource(20))}
	count := map[string]int{}
	for k := range 4000 {
		log := r.log()
		idx, flg := pagesFor(log)
		n := []int{0, 5, 15}[r.Intn(3)]
		files := filesOf(n, log, r.pick(idx), r.pick(flg))
		for _, name := range []string{"new", fmt.Sprint("bad.0.idx.", n), fmt.Sprint("bad.0.flg.", n), "tree"} {
			if r.Intn(4) == 0 {
				files[name] = []byte("there")
			}
		}
		d := diskOf(t, 1<<16, files)
		m := mendingOf(d, n)
		switch {
		case len(m.steps) == 0:
			count["whole"]++
		case len(m.steps) > 9:
			count["much"]++
		default:
			count["little"]++
		}
		if r.Intn(4) == 0 {
			wantLost(t, k, d, n)
		}
		if r.Intn(4) == 0 {
			leave(t, d, r.Intn(1000))
		}
		wantMended(t, k, d, n)
		if t.Failed() {
			return
		}
	}
	if count["whole"] < 300 || count["little"] < 300 || count["much"] < 300 {
		t.Error("nearly all alike:", count)
	}
}

// A store that goes on, with pages that are harmed between its calls: what it tells is as though nothing had been, but
// for flags.
func TestStoreGoesOn(t *testing.T) {
	r := random{rand.New(rand.NewSource(21))}
	for range 40 {
		d, _ := disk.New(1 << 16)
		s, _ := store.Open(d)
		calm, _ := disk.New(1 << 16)
		c, _ := store.Open(calm)
		for range 40 {
			if r.Intn(3) == 0 {
				r.harm(d)
				b, e := repair.Mend(d, 0)
				should, _ := c.Load("INBOX")
				wantBox(t, "mended", withoutFlags(b), e, withoutFlags(should), api.OK)
			}
			m := api.Msg{Octets: []byte(fmt.Sprint(r.Intn(1000)))}
			uid, e := s.Append("INBOX", m)
			should, _ := c.Append("INBOX", m)
			if e != api.OK || uid != should {
				t.Fatal(uid, should, e)
			}
			if gone := []uint32{uint32(1 + r.Intn(int(uid)))}; r.Intn(3) == 0 {
				for _, x := range []*store.Store{s, c} {
					want(t, "store", x.Store("INBOX", gone, api.Deleted, 1), api.OK)
					_, e := x.Expunge("INBOX", gone, false)
					want(t, "expunge", e, api.OK)
				}
			}
		}
		if s, e := store.Open(d); e != api.OK || !slices.Equal(s.Names(), []string{"INBOX"}) {
			t.Error(e)
		}
	}
}

// harm does something to a page, but none of what makes the log another one.
func (r random) harm(d *disk.Disk) {
	name := []string{"idx.0", "flg.0"}[r.Intn(2)]
	b, _ := d.Read(name)
	switch r.Intn(3) {
	case 0:
		d.Lose(name)
	case 1:
		b[r.Intn(len(b))] ^= 1 << r.Intn(8)
		d.Harm(name, b)
	default:
		d.Harm(name, b[:r.Intn(len(b))])
	}
}

// The same disks are mended in the same way.
func TestTwice(t *testing.T) {
	for name, log := range logs() {
		d := diskOf(t, 1<<16, filesOf(5, log, []byte("i"), nil))
		c := d.Clone()
		a, e := repair.Mend(d, 5)
		b, f := repair.Mend(c, 5)
		wantBox(t, name, a, e, b, f)
		wantPicture(t, name, d, c)
	}
}
