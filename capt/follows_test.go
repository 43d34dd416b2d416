package capt_test

import (
	"math/rand"
	"testing"

	"bailiwick/api"
	"bailiwick/capt"
	"bailiwick/rec"
	"bailiwick/rights"
	"bailiwick/space"
)

// sound looks at all caps: what they may do and how long, whose they are, and their keys.
func (b *bed) sound() {
	b.Helper()
	have, kids, leases := map[int]int{}, 0, 0
	for _, entry := range b.all() {
		kind, _, id := space.Split(entry.Key)
		switch kind {
		case space.Kid:
			kids++
		case space.Lease:
			leases++
		}
		if kind != space.Cap {
			continue
		}
		c, e := rec.TakeCap(id, entry.Value)
		if e != api.OK {
			b.Fatal(id, e)
		}
		have[c.Owner]++
		end, _ := capt.Ends(b.x, id)
		if c.Expiry != 0 {
			leases--
			b.has(space.Lease, c.Expiry, id, "")
		}
		if c.Parent == 0 {
			continue
		}
		kids--
		b.has(space.Kid, c.Parent, id, "")
		above := b.get(c.Parent)
		last, _ := capt.Ends(b.x, c.Parent)
		if !rights.Sub(c.Rights, above.Rights) || c.Depth != above.Depth+1 || c.Object != above.Object || last != 0 && (end == 0 || end > last) {
			b.Fatal(c, above, end, last)
		}
	}
	if kids != 0 || leases != 0 {
		b.Fatal("keys too many", kids, leases)
	}
	for owner := 1; owner <= 3; owner++ {
		o, e := capt.OwnerOf(b.x, owner)
		if e != api.OK || o.Have != have[owner] || o.Have > o.Limit {
			b.Fatal(o, have[owner], e)
		}
	}
}

// P15.5: whatever is done, a cap's rights are among its parent's, and each principal has as many as it has caps.
func TestFollows(t *testing.T) {
	for seed := range int64(6) {
		r := rand.New(rand.NewSource(seed))
		b := newBed(t, 200)
		b.register("ann", 40)
		b.register("bob", 5)
		b.register("cid", 0)
		for now := range 400 {
			id, owner, mask, expiry := 1+r.Intn(60), 1+r.Intn(3), r.Intn(16), r.Intn(3)*r.Intn(500)
			if last, _ := capt.Number(b.x, 1); last > 60 {
				id += last - 60
			}
			switch r.Intn(8) {
			case 0, 1:
				capt.Mint(b.x, owner, 1+r.Intn(3), mask|8, 0, expiry)
			case 2, 3, 4:
				capt.Derive(b.x, id, owner, mask, 0, expiry, now)
			case 5:
				capt.Remove(b.x, id)
			case 6:
				capt.Move(b.x, id, 1+r.Intn(60), now)
			case 7:
				if r.Intn(6) == 0 {
					capt.Revoke(b.x, id, r.Intn(2) == 0)
				}
			}
			if now%10 == 0 {
				b.sound()
			}
		}
		if b.x.Err() != api.OK {
			t.Error(b.x.Err())
		}
	}
}
