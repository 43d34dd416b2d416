package capt_test

import (
	"slices"
	"strings"
	"testing"

	"bailiwick/api"
	"bailiwick/capt"
	"bailiwick/disk"
	"bailiwick/rec"
	"bailiwick/shadow"
	"bailiwick/space"
	"bailiwick/txn"
)

const (
	far   = 1<<63 - 1
	lastB = 1<<32 - 1
)

// bed is a transaction to try caps in.
type bed struct {
	*testing.T
	x *txn.Txn
}

func newBed(t *testing.T, sectors int) *bed {
	t.Helper()
	d, _ := disk.New(sectors)
	s, e := shadow.Format(d)
	if e != api.OK {
		t.Fatal(e)
	}
	return &bed{t, txn.Begin(s)}
}

func key(kind, a, b int) uint64 {
	k, ok := space.Key(kind, a, b)
	if !ok {
		panic("no key")
	}
	return k
}

func (b *bed) put(kind, x, y int, value string) {
	b.Helper()
	if !b.x.Put(key(kind, x, y), value) {
		b.Fatal(b.x.Err())
	}
}

// has tells if there is a key, with that value.
func (b *bed) has(kind, x, y int, value string) {
	b.Helper()
	if got, is := b.x.Get(key(kind, x, y)); !is || got != value {
		b.Errorf("key %d %d %d: %x, %v", kind, x, y, got, is)
	}
}

func (b *bed) hasNot(kind, x, y int) {
	b.Helper()
	if got, is := b.x.Get(key(kind, x, y)); is {
		b.Errorf("key %d %d %d: %x", kind, x, y, got)
	}
}

func (b *bed) all() []api.Entry { return b.x.Scan(0, 1<<20) }

// unchanged does something that changes nothing, and tells that error.
func (b *bed) unchanged(want api.Errno, do func() api.Errno) {
	b.Helper()
	was := b.all()
	if e := do(); e != want {
		b.Errorf("error %d, not %d", e, want)
	}
	if !slices.Equal(was, b.all()) {
		b.Error("changed by an error")
	}
}

// cap writes a cap by hand.
func (b *bed) cap(c api.Cap) {
	b.Helper()
	value, e := rec.PutCap(c)
	if e != api.OK {
		b.Fatal(e, c)
	}
	b.put(space.Cap, 0, c.ID, value)
}

func (b *bed) register(name string, limit int) int {
	b.Helper()
	id, e := capt.Register(b.x, name, limit)
	if e != api.OK {
		b.Fatal(e)
	}
	return id
}

func (b *bed) mint(owner, rights, expiry int) int {
	b.Helper()
	id, e := capt.Mint(b.x, owner, 3, rights, 9, expiry)
	if e != api.OK {
		b.Fatal(e)
	}
	return id
}

func (b *bed) derive(parent, owner, rights, expiry int) int {
	b.Helper()
	id, e := capt.Derive(b.x, parent, owner, rights, 8, expiry, 0)
	if e != api.OK {
		b.Fatal(e)
	}
	return id
}

func (b *bed) get(id int) api.Cap {
	b.Helper()
	c, e := capt.Get(b.x, id)
	if e != api.OK {
		b.Fatal(id, e)
	}
	return c
}

func (b *bed) have(owner, want int) {
	b.Helper()
	o, e := capt.OwnerOf(b.x, owner)
	if e != api.OK || o.Have != want {
		b.Errorf("principal %d has %d, not %d (%d)", owner, o.Have, want, e)
	}
}

func (b *bed) state(id, now int, want api.Errno) {
	b.Helper()
	if e := capt.State(b.x, id, now); e != want {
		b.Errorf("State of %d at %d: %d, not %d", id, now, e, want)
	}
}

// P15.1: the numbers of Metas.
func TestNumber(t *testing.T) {
	b := newBed(t, 40)
	if n, e := capt.Number(b.x, 1); n != 0 || e != api.OK {
		t.Error(n, e)
	}
	b.put(space.Meta, 0, 1, "\x01\x02\x03")
	b.put(space.Meta, 0, 2, "\x01\x02")
	b.put(space.Meta, 0, 3, "")
	b.put(space.Meta, 0, lastB, "\xff\xff\xff")
	if n, e := capt.Number(b.x, 1); n != 0x010203 || e != api.OK {
		t.Error(n, e)
	}
	if n, e := capt.Number(b.x, lastB); n != api.MaxID || e != api.OK {
		t.Error(n, e)
	}
	for _, meta := range []int{2, 3} {
		if n, e := capt.Number(b.x, meta); n != 0 || e != api.ErrForm {
			t.Error(meta, n, e)
		}
	}
	for _, meta := range []int{-1, lastB + 1, far, -far - 1} {
		if n, e := capt.Number(b.x, meta); n != 0 || e != api.ErrArg {
			t.Error(meta, n, e)
		}
	}
}

// P15.1: principals are registered.
func TestRegister(t *testing.T) {
	b := newBed(t, 40)
	if id := b.register("Ann", 10); id != 1 {
		t.Error(id)
	}
	if id := b.register("Bob.É", api.MaxQuota); id != 2 {
		t.Error(id)
	}
	b.register("zero", 0)
	b.has(space.Owner, 0, 1, "\x00\x0a\x00\x00\x03ann")
	b.has(space.Meta, 0, 2, "\x00\x00\x03")
	if o, e := capt.OwnerOf(b.x, 2); o != (api.Owner{ID: 2, Name: "bob.É", Limit: 1000}) || e != api.OK {
		t.Error(o, e)
	}
	for _, c := range []struct {
		name  string
		limit int
		e     api.Errno
	}{
		{"", 1, api.ErrArg}, {"a..b", 1, api.ErrArg}, {"ok", -1, api.ErrArg}, {"ok", 1001, api.ErrArg}, {"ann", -1, api.ErrArg},
		{"ANN", 1, api.ErrExists}, {"ok", far, api.ErrArg}, {strings.Repeat("a", 17), 1, api.ErrArg},
	} {
		b.unchanged(c.e, func() api.Errno {
			id, e := capt.Register(b.x, c.name, c.limit)
			if id != 0 {
				t.Error(id)
			}
			return e
		})
	}
}

// P15.1: numbers that come to their end, or are none.
func TestRegisterNumbers(t *testing.T) {
	b := newBed(t, 40)
	b.put(space.Meta, 0, 2, "\xff\xff\xfe")
	if id := b.register("a", 1); id != api.MaxID {
		t.Error(id)
	}
	b.unchanged(api.ErrFull, func() api.Errno { _, e := capt.Register(b.x, "b", 1); return e })
	b.put(space.Meta, 0, 2, "xx")
	b.unchanged(api.ErrForm, func() api.Errno { _, e := capt.Register(b.x, "b", 1); return e })
	b.unchanged(api.ErrExists, func() api.Errno { _, e := capt.Register(b.x, "A", 1); return e })
}

// P15.1: principals by number and by name.
func TestNamed(t *testing.T) {
	b := newBed(t, 40)
	for _, id := range []int{0, -1, 1, api.MaxID + 1, far, -far - 1} {
		if o, e := capt.OwnerOf(b.x, id); o != (api.Owner{}) || e != api.ErrNone {
			t.Error(id, o, e)
		}
	}
	if o, e := capt.Named(b.x, "ann"); o != (api.Owner{}) || e != api.ErrNone {
		t.Error(o, e)
	}
	if o, e := capt.Named(b.x, "-"); o != (api.Owner{}) || e != api.ErrArg {
		t.Error(o, e)
	}
	b.register("ann", 1)
	b.register("bob", 2)
	b.register("cid", 3)
	if o, e := capt.Named(b.x, "BOB"); o != (api.Owner{ID: 2, Name: "bob", Limit: 2}) || e != api.OK {
		t.Error(o, e)
	}
	b.put(space.Owner, 0, 2, "bad")
	if _, e := capt.Named(b.x, "ann"); e != api.OK {
		t.Error(e)
	}
	for _, name := range []string{"bob", "cid", "dan"} {
		if o, e := capt.Named(b.x, name); o != (api.Owner{}) || e != api.ErrForm {
			t.Error(name, o, e)
		}
	}
	if o, e := capt.OwnerOf(b.x, 2); o != (api.Owner{}) || e != api.ErrForm {
		t.Error(o, e)
	}
	b.unchanged(api.ErrForm, func() api.Errno { _, e := capt.Register(b.x, "dan", 1); return e })
	b.put(space.Owner, 0, 0, "bad")
	if _, e := capt.Named(b.x, "ann"); e != api.ErrNone {
		t.Error(e)
	}
}

// P15.1: the way by numbers ends at a number that is none, and behind first number 0.
func TestNamedEnd(t *testing.T) {
	b := newBed(t, 40)
	b.register("ann", 1)
	b.put(space.Owner, 0, api.MaxID+1, "\x00\x02\x00\x00\x03bob")
	b.put(space.Owner, 1, 5, "\x00\x02\x00\x00\x03cid")
	for _, name := range []string{"bob", "cid"} {
		if o, e := capt.Named(b.x, name); o != (api.Owner{}) || e != api.ErrNone {
			t.Error(name, o, e)
		}
	}
}

// P15.2: caps by number.
func TestGet(t *testing.T) {
	b := newBed(t, 40)
	for _, id := range []int{0, -1, 1, api.MaxID + 1, far, -far - 1} {
		if c, e := capt.Get(b.x, id); c != (api.Cap{}) || e != api.ErrNone {
			t.Error(id, c, e)
		}
	}
	b.put(space.Cap, 0, 1, "bad")
	if c, e := capt.Get(b.x, 1); c != (api.Cap{}) || e != api.ErrForm {
		t.Error(c, e)
	}
	c := api.Cap{ID: 2, Object: 1, Owner: 1, Depth: 1}
	b.cap(c)
	if got := b.get(2); got != c {
		t.Error(got)
	}
	value, _ := b.x.Get(key(space.Cap, 0, 2))
	b.put(space.Cap, 5, 3, value)
	b.put(space.Cap, 0, api.MaxID+1, value)
	for _, id := range []int{3, api.MaxID + 1} {
		if _, e := capt.Get(b.x, id); e != api.ErrNone {
			t.Error(id, e)
		}
	}
}

// P15.2: the state of a cap hangs on all above it.
func TestState(t *testing.T) {
	b := newBed(t, 40)
	ann := b.register("ann", 100)
	one := b.mint(ann, 7, 50)
	two := b.derive(one, ann, 7, 40)
	three := b.derive(two, ann, 7, 60)
	b.state(three, 39, api.OK)
	b.state(three, 40, api.ErrExpired)
	b.state(one, 40, api.OK)
	b.state(one, 50, api.ErrExpired)
	b.state(one, far, api.ErrExpired)
	b.state(one, -far-1, api.OK)
	b.state(99, 0, api.ErrNone)
	b.state(0, 0, api.ErrNone)
	for id, want := range map[int]int{one: 50, two: 40, three: 40} {
		if end, e := capt.Ends(b.x, id); end != want || e != api.OK {
			t.Error(id, end, e)
		}
	}
	if end, e := capt.Ends(b.x, b.mint(ann, 1, 0)); end != 0 || e != api.OK {
		t.Error(end, e)
	}
	if end, e := capt.Ends(b.x, 99); end != 0 || e != api.ErrNone {
		t.Error(end, e)
	}
	c := b.get(one)
	c.Cut = two
	b.cap(c)
	b.state(one, 0, api.OK)
	b.state(two, 0, api.ErrRevoked)
	b.state(three, 0, api.ErrRevoked)
	b.state(three, 99, api.ErrRevoked)
	c.Cut = two - 1
	b.cap(c)
	b.state(three, 0, api.OK)
	c.Revoked = true
	b.cap(c)
	b.state(one, 0, api.ErrRevoked)
	b.state(three, 99, api.ErrRevoked)
}

// P15.2: an error above, and a chain without end.
func TestStateChain(t *testing.T) {
	b := newBed(t, 40)
	for id := 1; id <= 10; id++ {
		b.cap(api.Cap{ID: id, Parent: id + 1, Object: 1, Owner: 1, Depth: 2, Expiry: 100 - id})
	}
	b.state(1, 0, api.ErrForm)
	b.state(4, 0, api.ErrNone)
	b.state(3, 0, api.ErrNone) // caps 3 to 10 are eight, 11 is the ninth
	b.cap(api.Cap{ID: 11, Object: 1, Owner: 1, Depth: 1})
	b.state(3, 0, api.OK)
	b.state(2, 0, api.ErrForm)
	if end, e := capt.Ends(b.x, 3); end != 90 || e != api.OK {
		t.Error(end, e)
	}
	if end, e := capt.Ends(b.x, 2); end != 0 || e != api.ErrForm {
		t.Error(end, e)
	}
	b.cap(api.Cap{ID: 3, Parent: 4, Object: 1, Owner: 1, Depth: 2, Revoked: true})
	b.put(space.Cap, 0, 8, "bad")
	b.state(3, 999, api.ErrForm)
	b.x.Delete(key(space.Cap, 0, 6))
	b.state(3, 999, api.ErrNone)
}

// P15.2: children.
func TestKids(t *testing.T) {
	b := newBed(t, 40)
	for _, kid := range []int{7, 3, 0, lastB, api.MaxID + 1} {
		b.put(space.Kid, 5, kid, "")
	}
	b.put(space.Kid, 4, 9, "")
	b.put(space.Kid, 6, 1, "whatever")
	for _, c := range []struct {
		id, from, most int
		want           []int
	}{
		{5, 0, 9, []int{0, 3, 7, api.MaxID + 1, lastB}}, {5, -9, 2, []int{0, 3}}, {5, -far - 1, 1, []int{0}}, {5, 3, 1, []int{3}}, {5, 4, far, []int{7, api.MaxID + 1, lastB}},
		{5, lastB, 9, []int{lastB}}, {5, lastB + 1, 9, nil}, {5, far, 9, nil}, {5, 0, 0, nil}, {5, 0, -1, nil}, {7, 0, 9, nil}, {6, 0, 9, []int{1}},
		{0, 0, 9, nil}, {-1, 0, 9, nil}, {api.MaxID + 1, 0, 9, nil}, {far, 0, 9, nil},
	} {
		if got, e := capt.Kids(b.x, c.id, c.from, c.most); !slices.Equal(got, c.want) || e != api.OK {
			t.Errorf("Kids(%d, %d, %d) = %v, %d", c.id, c.from, c.most, got, e)
		}
	}
}

// P15.3: caps are minted.
func TestMint(t *testing.T) {
	b := newBed(t, 40)
	ann := b.register("ann", 3)
	id, e := capt.Mint(b.x, ann, 77, 5, lastB, 0)
	if id != 1 || e != api.OK || b.get(1) != (api.Cap{ID: 1, Object: 77, Owner: ann, Rights: 5, Badge: lastB, Depth: 1}) {
		t.Error(id, e)
	}
	b.has(space.Meta, 0, 1, "\x00\x00\x01")
	id, e = capt.Mint(b.x, ann, api.MaxID, 65535, 0, api.MaxClock)
	if id != 2 || e != api.OK || b.get(2).Expiry != api.MaxClock {
		t.Error(id, e)
	}
	b.has(space.Lease, api.MaxClock, 2, "")
	b.have(ann, 2)
	for _, c := range [][5]int{
		{ann, 0, 0, 0, 0}, {ann, api.MaxID + 1, 0, 0, 0}, {ann, 1, -1, 0, 0}, {ann, 1, 65536, 0, 0}, {ann, 1, 0, -1, 0}, {ann, 1, 0, lastB + 1, 0},
		{ann, 1, 0, 0, -1}, {ann, 1, 0, 0, api.MaxClock + 1}, {99, 0, 0, 0, 0}, {ann, far, far, far, far},
	} {
		b.unchanged(api.ErrArg, func() api.Errno { _, e := capt.Mint(b.x, c[0], c[1], c[2], c[3], c[4]); return e })
	}
	for _, owner := range []int{0, -1, 2, far} {
		b.unchanged(api.ErrNone, func() api.Errno { _, e := capt.Mint(b.x, owner, 1, 0, 0, 0); return e })
	}
	b.mint(ann, 0, 0)
	b.unchanged(api.ErrQuota, func() api.Errno { _, e := capt.Mint(b.x, ann, 1, 0, 0, 0); return e })
	b.put(space.Meta, 0, 1, "bad!")
	b.unchanged(api.ErrQuota, func() api.Errno { _, e := capt.Mint(b.x, ann, 1, 0, 0, 0); return e })
	bob := b.register("bob", 3)
	b.unchanged(api.ErrForm, func() api.Errno { _, e := capt.Mint(b.x, bob, 1, 0, 0, 0); return e })
	b.put(space.Meta, 0, 1, "\xff\xff\xff")
	b.unchanged(api.ErrFull, func() api.Errno { _, e := capt.Mint(b.x, bob, 1, 0, 0, 0); return e })
	b.put(space.Owner, 0, bob, "bad")
	b.unchanged(api.ErrForm, func() api.Errno { _, e := capt.Mint(b.x, bob, 1, 0, 0, 0); return e })
}

// P15.3: caps are derived.
func TestDerive(t *testing.T) {
	b := newBed(t, 40)
	ann, bob := b.register("ann", 20), b.register("bob", 1)
	top := b.mint(ann, 7, 50)
	id, e := capt.Derive(b.x, top, bob, 5, 11, 60, 49)
	if id != 2 || e != api.OK || b.get(2) != (api.Cap{ID: 2, Parent: top, Object: 3, Owner: bob, Rights: 5, Badge: 11, Depth: 2, Expiry: 60}) {
		t.Error(id, e)
	}
	b.has(space.Kid, top, 2, "")
	b.has(space.Lease, 60, 2, "")
	b.have(bob, 1)
	b.have(ann, 1)
	derive := func(parent, owner, rights, badge, expiry, now int) func() api.Errno {
		return func() api.Errno {
			id, e := capt.Derive(b.x, parent, owner, rights, badge, expiry, now)
			if id != 0 {
				t.Error(id)
			}
			return e
		}
	}
	b.unchanged(api.ErrArg, derive(99, 99, 65536, 0, 0, 0))
	b.unchanged(api.ErrArg, derive(top, ann, -1, 0, 0, 0))
	b.unchanged(api.ErrArg, derive(top, ann, 0, lastB+1, 0, 0))
	b.unchanged(api.ErrArg, derive(top, ann, 0, -1, 0, 0))
	b.unchanged(api.ErrArg, derive(top, ann, 0, 0, api.MaxClock+1, 0))
	b.unchanged(api.ErrArg, derive(top, ann, 0, 0, -1, 0))
	b.unchanged(api.ErrNone, derive(99, ann, 0, 0, 0, 0))
	b.unchanged(api.ErrExpired, derive(top, 99, 8, 0, 0, 50))
	b.unchanged(api.ErrNone, derive(top, 99, 8, 0, 0, 49))
	b.unchanged(api.ErrRights, derive(top, bob, 8, 0, 0, 49))
	b.unchanged(api.ErrQuota, derive(top, bob, 7, 0, 0, 49))
	at := top
	for depth := 2; depth <= 8; depth++ {
		at = b.derive(at, ann, 7, 0)
	}
	b.unchanged(api.ErrDepth, derive(at, bob, 7, 0, 0, 0))
	b.unchanged(api.ErrRights, derive(at, bob, 8, 0, 0, 0))
	capt.Revoke(b.x, top, true)
	b.unchanged(api.ErrRevoked, derive(top, ann, 0, 0, 0, 0))
}

// P15.3: what stands under a new number is laid over; a cap without bytes has an empty value.
func TestLaidOver(t *testing.T) {
	b := newBed(t, 40)
	ann := b.register("ann", 20)
	b.put(space.Cap, 0, 1, "whatever")
	b.mint(ann, 7, 0)
	b.get(1)
	b.put(space.Meta, 0, 1, "\x00\x00\x00")
	if id := b.derive(1, ann, 3, 0); id != 1 {
		t.Error(id)
	}
	b.has(space.Cap, 0, 1, "")
	b.has(space.Kid, 1, 1, "")
	b.have(ann, 2)
}

// P15.4: caps are removed with their keys.
func TestRemove(t *testing.T) {
	b := newBed(t, 40)
	ann, bob := b.register("ann", 20), b.register("bob", 20)
	top := b.mint(ann, 7, 50)
	kid := b.derive(top, bob, 7, 40)
	b.unchanged(api.ErrState, func() api.Errno { return capt.Remove(b.x, top) })
	b.put(space.Kid, kid, 0, "") // a child, though of no number that a cap has
	b.unchanged(api.ErrState, func() api.Errno { return capt.Remove(b.x, kid) })
	b.x.Delete(key(space.Kid, kid, 0))
	for _, id := range []int{0, -1, 99, far} {
		b.unchanged(api.ErrNone, func() api.Errno { return capt.Remove(b.x, id) })
	}
	if e := capt.Remove(b.x, kid); e != api.OK {
		t.Error(e)
	}
	b.hasNot(space.Cap, 0, kid)
	b.hasNot(space.Kid, top, kid)
	b.hasNot(space.Lease, 40, kid)
	b.have(bob, 0)
	b.have(ann, 1)
	if e := capt.Remove(b.x, top); e != api.OK {
		t.Error(e)
	}
	b.hasNot(space.Lease, 50, top)
	b.have(ann, 0)
	if list := b.all(); len(list) != 4 { // two principals, two numbers
		t.Error(list)
	}
	b.has(space.Meta, 0, 1, "\x00\x00\x02")
}

// P15.4: an owner who is not there, has none, or is none.
func TestRemoveOwner(t *testing.T) {
	b := newBed(t, 40)
	ann := b.register("ann", 20)
	for id, owner := range map[int]int{1: ann, 2: 99, 3: 98} {
		b.cap(api.Cap{ID: id, Object: 1, Owner: owner, Depth: 1})
	}
	b.put(space.Owner, 0, 98, "bad")
	if e := capt.Remove(b.x, 1); e != api.OK {
		t.Error(e)
	}
	b.have(ann, 0)
	if e := capt.Remove(b.x, 2); e != api.OK {
		t.Error(e)
	}
	b.unchanged(api.ErrForm, func() api.Errno { return capt.Remove(b.x, 3) })
}

// P15.4: caps are moved.
func TestMove(t *testing.T) {
	b := newBed(t, 60)
	ann := b.register("ann", 20)
	from := b.mint(ann, 7, 0)
	kid := b.derive(from, ann, 3, 30)
	to := b.derive(b.mint(ann, 7, 0), ann, 3, 40)
	other, e := capt.Mint(b.x, ann, 1234, 7, 0, 0)
	if e != api.OK {
		t.Fatal(e)
	}
	move := func(id, parent, now int) func() api.Errno {
		return func() api.Errno { return capt.Move(b.x, id, parent, now) }
	}
	b.unchanged(api.ErrNone, move(99, kid, 0))
	b.unchanged(api.ErrNone, move(kid, 99, 0))
	b.unchanged(api.ErrExpired, move(kid, 99, 30))
	b.unchanged(api.ErrExpired, move(from, to, 40))
	b.unchanged(api.ErrState, move(from, to, 0))
	b.unchanged(api.ErrState, move(other, to, 0))
	b.unchanged(api.ErrState, move(kid, kid, 0))
	if e := capt.Move(b.x, kid, to, 0); e != api.OK {
		t.Error(e)
	}
	if c := b.get(kid); c != (api.Cap{ID: kid, Parent: to, Object: 3, Owner: ann, Rights: 3, Badge: 8, Depth: 3, Expiry: 30}) {
		t.Error(c)
	}
	b.hasNot(space.Kid, from, kid)
	b.has(space.Kid, to, kid, "")
	b.unchanged(api.ErrState, move(to, from, 0))
	if e := capt.Move(b.x, kid, other, 0); e != api.OK || b.get(kid).Object != 1234 || b.get(kid).Depth != 2 {
		t.Error(e, b.get(kid))
	}
	b.unchanged(api.OK, move(kid, other, 0))
	weak := b.mint(ann, 1, 0)
	b.unchanged(api.ErrRights, move(kid, weak, 0))
	last := b.derive(other, ann, 1, 0)
	capt.Revoke(b.x, from, false)
	b.unchanged(api.ErrState, move(kid, from, 0))
	b.unchanged(api.ErrState, move(last, from, 0))
	late := b.derive(other, ann, 1, 0)
	if e := capt.Move(b.x, late, from, 0); e != api.OK {
		t.Error(e)
	}
	b.have(ann, 8)
}

// P15.4: nothing is moved deeper than it may be.
func TestMoveDeep(t *testing.T) {
	b := newBed(t, 60)
	ann := b.register("ann", 20)
	at := b.mint(ann, 7, 0)
	kid := b.derive(at, ann, 7, 0)
	for depth := 2; depth <= 7; depth++ {
		at = b.derive(at, ann, 7, 0)
	}
	if e := capt.Move(b.x, kid, at, 0); e != api.OK || b.get(kid).Depth != 8 {
		t.Error(e)
	}
	other := b.derive(at, ann, 7, 0)
	b.unchanged(api.ErrDepth, func() api.Errno { return capt.Move(b.x, kid, other, 0) })
	b.unchanged(api.ErrState, func() api.Errno { return capt.Move(b.x, 1, other, 0) })
}

// P15.4: a cap is revoked, or its children so far.
func TestRevoke(t *testing.T) {
	b := newBed(t, 40)
	ann := b.register("ann", 20)
	top := b.mint(ann, 7, 0)
	kid := b.derive(top, ann, 7, 0)
	if e := capt.Revoke(b.x, top, false); e != api.OK || b.get(top).Cut != kid || b.get(top).Revoked {
		t.Error(e, b.get(top))
	}
	b.state(kid, 0, api.ErrRevoked)
	b.state(top, 0, api.OK)
	next := b.derive(top, ann, 7, 0)
	b.state(next, 0, api.OK)
	if e := capt.Revoke(b.x, top, true); e != api.OK || b.get(top).Cut != kid || !b.get(top).Revoked {
		t.Error(e, b.get(top))
	}
	b.state(next, 0, api.ErrRevoked)
	b.state(top, 0, api.ErrRevoked)
	for _, self := range []bool{true, false} {
		b.unchanged(api.ErrNone, func() api.Errno { return capt.Revoke(b.x, 99, self) })
		b.unchanged(api.ErrNone, func() api.Errno { return capt.Revoke(b.x, 0, self) })
	}
	b.put(space.Meta, 0, 1, "bad!")
	for _, self := range []bool{true, false} {
		b.unchanged(api.ErrForm, func() api.Errno { return capt.Revoke(b.x, kid, self) })
	}
}

// The transaction's error goes ahead of all.
func TestTransactionError(t *testing.T) {
	b := newBed(t, 8)
	ann := b.register("ann", 1000)
	top := b.mint(ann, 7, 0)
	var e api.Errno
	for e == api.OK {
		var id int
		if id, e = capt.Derive(b.x, top, ann, 7, 0, 0, 0); e != api.OK && id != 0 {
			t.Error(id)
		}
	}
	if e != api.ErrFull || b.x.Err() != api.ErrFull {
		t.Error(e)
	}
	calls := map[string]func() api.Errno{
		"Number":   func() api.Errno { _, e := capt.Number(b.x, -1); return e },
		"Register": func() api.Errno { _, e := capt.Register(b.x, "", 0); return e },
		"OwnerOf":  func() api.Errno { _, e := capt.OwnerOf(b.x, 0); return e },
		"Named":    func() api.Errno { _, e := capt.Named(b.x, ""); return e },
		"Get":      func() api.Errno { _, e := capt.Get(b.x, 0); return e },
		"State":    func() api.Errno { return capt.State(b.x, 0, 0) },
		"Ends":     func() api.Errno { _, e := capt.Ends(b.x, 0); return e },
		"Kids":     func() api.Errno { _, e := capt.Kids(b.x, 0, 0, 0); return e },
		"Mint":     func() api.Errno { _, e := capt.Mint(b.x, 0, 0, 0, 0, 0); return e },
		"Derive":   func() api.Errno { _, e := capt.Derive(b.x, 0, 0, -1, 0, 0, 0); return e },
		"Remove":   func() api.Errno { return capt.Remove(b.x, 0) },
		"Move":     func() api.Errno { return capt.Move(b.x, 0, 0, 0) },
		"Revoke":   func() api.Errno { return capt.Revoke(b.x, 0, true) },
	}
	for name, call := range calls {
		if e := call(); e != api.ErrFull {
			t.Error(name, e)
		}
	}
}
