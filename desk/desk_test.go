package desk_test

import (
	"slices"
	"strings"
	"testing"

	"bailiwick/api"
	"bailiwick/capt"
	"bailiwick/desk"
	"bailiwick/disk"
	"bailiwick/handle"
	"bailiwick/intent"
	"bailiwick/lease"
	"bailiwick/proto"
	"bailiwick/shadow"
	"bailiwick/slot"
	"bailiwick/space"
	"bailiwick/txn"
)

// bed is a transaction with a key, and the principals ann (1) and bob (2).
type bed struct {
	*testing.T
	x    *txn.Txn
	draw uint64
	now  int
}

func newBed(t *testing.T) *bed {
	t.Helper()
	d, _ := disk.New(200)
	s, e := shadow.Format(d)
	if e != api.OK {
		t.Fatal(e)
	}
	b := &bed{T: t, x: txn.Begin(s)}
	b.does(0, proto.Register{Name: "Ann", Limit: 50}, "\x00\x00\x01")
	b.does(0, proto.Register{Name: "bob", Limit: 3}, "\x00\x00\x02")
	if body, used, e := desk.Do(b.x, 1, 0, proto.Rotate{}, []uint64{1, 2, 3, 4, 5}); body != "\x00\x01" || used != 4 || e != api.OK {
		t.Fatal(body, used, e)
	}
	return b
}

// does asks for something that uses no draws.
func (b *bed) does(owner int, r any, want string) {
	b.Helper()
	if body, used, e := desk.Do(b.x, owner, b.now, r, []uint64{1, 2, 3, 4}); body != want || used != 0 || e != api.OK {
		b.Errorf("%#v: %x, %d, %d, not %x", r, body, used, e, want)
	}
}

// handle asks for something that makes a handle, with a new draw.
func (b *bed) handle(owner int, r any) string {
	b.Helper()
	b.draw++
	s, used, e := desk.Do(b.x, owner, b.now, r, []uint64{b.draw, 99})
	if len(s) != 29 || used != 1 || e != api.OK {
		b.Fatalf("%#v: %x, %d, %d", r, s, used, e)
	}
	return s
}

func (b *bed) mint(rights int) string {
	b.Helper()
	return b.handle(1, proto.Mint{Object: 3, Rights: rights, Badge: 9})
}

func (b *bed) derive(h string, rights, expiry int) string {
	b.Helper()
	return b.handle(1, proto.Derive{Handle: h, Name: "BOB", Rights: rights, Badge: 8, Expiry: expiry})
}

func (b *bed) fails(owner int, r any, want api.Errno) {
	b.Helper()
	if body, used, e := desk.Do(b.x, owner, b.now, r, []uint64{77, 78, 79, 80}); body != "" || used != 0 || e != want {
		b.Errorf("%#v: %x, %d, %d, not %d", r, body, used, e, want)
	}
}

func (b *bed) looks(h string, id int, want api.Errno) {
	b.Helper()
	c, e := desk.Look(b.x, h, b.now)
	if c.ID != id || e != want || e != api.OK && c != (api.Cap{}) {
		b.Errorf("Look(%x) = %v, %d, not %d, %d", h, c, e, id, want)
	}
}

// P22.1: the cap of a handle, if it counts.
func TestLook(t *testing.T) {
	b := newBed(t)
	top := b.mint(7)
	kid := b.derive(top, 5, 40)
	b.looks(top, 1, api.OK)
	b.looks(kid, 2, api.OK)
	if c, _ := desk.Look(b.x, kid, 39); c != (api.Cap{ID: 2, Parent: 1, Object: 3, Owner: 2, Rights: 5, Badge: 8, Depth: 2, Expiry: 40}) {
		t.Error(c)
	}
	b.looks("", 0, api.ErrForm)
	b.looks(top[:28]+string([]byte{top[28] ^ 1}), 0, api.ErrSum)
	b.now = 40
	b.looks(kid, 0, api.ErrExpired)
	capt.Revoke(b.x, 1, false)
	b.looks(kid, 0, api.ErrRevoked)
	capt.Remove(b.x, 2)
	b.looks(kid, 0, api.ErrNone)
	slot.Free(b.x, 2)
	b.looks(kid, 0, api.ErrRevoked)
}

// P22.2: what is no request that can be done.
func TestWrong(t *testing.T) {
	b := newBed(t)
	for _, r := range []any{nil, 5, proto.Hello{Name: "ann"}, proto.Hello{}, &proto.Quota{}, proto.Mint{}, proto.Validate{}, proto.Register{Name: "x", Limit: -1}} {
		b.fails(1, r, api.ErrArg)
	}
}

// P22.2: Register, Mint and Quota.
func TestMint(t *testing.T) {
	b := newBed(t)
	b.fails(1, proto.Register{Name: "ANN", Limit: 1}, api.ErrExists)
	b.does(1, proto.Register{Name: "cid", Limit: 1}, "\x00\x00\x03")
	b.does(1, proto.Quota{}, "\x00\x32\x00\x00")
	b.does(2, proto.Quota{}, "\x00\x03\x00\x00")
	for _, owner := range []int{0, -1, 9} {
		b.fails(owner, proto.Quota{}, api.ErrNone)
		b.fails(owner, proto.Mint{Object: 1}, api.ErrNone)
	}
	h := b.handle(3, proto.Mint{Object: 258, Rights: 5, Badge: 1 << 31, Expiry: 99})
	if c, e := desk.Look(b.x, h, 0); c != (api.Cap{ID: 1, Object: 258, Owner: 3, Rights: 5, Badge: 1 << 31, Depth: 1, Expiry: 99}) || e != api.OK {
		t.Error(c, e)
	}
	b.does(3, proto.Quota{}, "\x00\x01\x00\x01")
	b.fails(3, proto.Mint{Object: 1}, api.ErrQuota)
	if body, used, e := desk.Do(b.x, 1, 0, proto.Mint{Object: 1}, []uint64{1, 1, 1, 2}); len(body) != 29 || used != 4 || e != api.OK {
		t.Error(body, used, e)
	}
	for _, c := range []struct {
		draws []uint64
		used  int
	}{{nil, 0}, {[]uint64{1, 2, 1}, 3}, {[]uint64{1, 1, 1, 1, 1, 1, 1, 1, 3}, 8}} {
		if body, used, e := desk.Do(b.x, 1, 0, proto.Mint{Object: 1}, c.draws); body != "" || used != c.used || e != api.ErrBusy {
			t.Error(body, used, e)
		}
	}
}

// P22.2: Derive; the first error that there is.
func TestDerive(t *testing.T) {
	b := newBed(t)
	top := b.mint(7)
	kid := b.derive(top, 5, 0)
	b.does(2, proto.Quota{}, "\x00\x03\x00\x01")
	b.fails(1, proto.Derive{Handle: strings.Repeat("x", 29), Name: "nobody"}, api.ErrForm)
	b.fails(1, proto.Derive{Handle: top, Name: "nobody", Rights: 8}, api.ErrNone)
	b.fails(1, proto.Derive{Handle: kid, Name: "ann", Rights: 2}, api.ErrRights)
	if body, used, e := desk.Do(b.x, 1, 0, proto.Derive{Handle: kid, Name: "ann", Rights: 1}, []uint64{1, 2}); body != "" || used != 2 || e != api.ErrBusy {
		t.Error(body, used, e)
	}
	b.handle(7, proto.Derive{Handle: kid, Name: "ann", Rights: 1})
}

// P22.2: Validate and Invoke.
func TestValidate(t *testing.T) {
	b := newBed(t)
	top := b.mint(7)
	mid := b.derive(top, 5, 40)
	kid := b.derive(mid, 4, 60)
	b.does(9, proto.Validate{Handle: kid}, "\x00\x04"+"\x00\x00\x00\x08"+"\x03"+"\x00\x00\x00\x28"+"\x00\x00\x03")
	b.does(9, proto.Validate{Handle: top}, "\x00\x07"+"\x00\x00\x00\x09"+"\x01"+"\x00\x00\x00\x00"+"\x00\x00\x03")
	b.does(9, proto.Invoke{Handle: kid, Right: 'c'}, "\x00\x00\x03\x00\x00\x00\x08")
	b.fails(9, proto.Invoke{Handle: kid, Right: 'a'}, api.ErrRights)
	b.fails(9, proto.Invoke{Handle: kid, Right: 'p'}, api.ErrRights)
	all := b.mint(65535)
	for r := 'a'; r <= 'p'; r++ {
		b.does(9, proto.Invoke{Handle: all, Right: r}, "\x00\x00\x03\x00\x00\x00\x09")
	}
	b.now = 40
	b.fails(9, proto.Validate{Handle: kid}, api.ErrExpired)
	b.fails(9, proto.Invoke{Handle: mid, Right: 'b'}, api.ErrExpired)
}

// P22.2: Renew.
func TestRenew(t *testing.T) {
	b := newBed(t)
	top := b.mint(7)
	b.does(9, proto.Renew{Handle: top, Expiry: 50}, "")
	b.now = 49
	b.looks(top, 1, api.OK)
	b.fails(9, proto.Renew{Handle: top, Expiry: 49}, api.ErrArg)
	b.now = 50
	b.fails(9, proto.Renew{Handle: top, Expiry: 60}, api.ErrExpired)
}

// P22.2: Revoke, of a cap or of what is below it.
func TestRevoke(t *testing.T) {
	b := newBed(t)
	top := b.handle(1, proto.Mint{Object: 3, Rights: 7, Expiry: 90})
	kid := b.derive(top, 5, 80)
	b.does(9, proto.Revoke{Handle: top}, "")
	b.looks(top, 1, api.OK)
	b.looks(kid, 0, api.ErrRevoked)
	if due, _ := lease.Due(b.x, 99, 9); !slices.Equal(due, []int{2, 1}) {
		t.Error(due)
	}
	b.does(9, proto.Revoke{Handle: top, Self: true}, "")
	b.looks(top, 0, api.ErrRevoked)
	b.fails(9, proto.Revoke{Handle: top, Self: true}, api.ErrRevoked)
	if due, _ := lease.Due(b.x, 99, 9); !slices.Equal(due, []int{2}) {
		t.Error(due)
	}
	if left, _ := intent.Left(b.x); left != 2 {
		t.Error(left)
	}
}

// P22.2: Delete.
func TestDelete(t *testing.T) {
	b := newBed(t)
	top := b.mint(7)
	kid := b.derive(top, 5, 0)
	b.fails(9, proto.Delete{Handle: top}, api.ErrState)
	none, _ := space.Key(space.Kid, 2, 0)
	b.x.Put(none, "")
	b.fails(9, proto.Delete{Handle: kid}, api.ErrState)
	b.x.Delete(none)
	b.looks(top, 1, api.OK)
	b.does(9, proto.Delete{Handle: kid}, "")
	b.looks(kid, 0, api.ErrRevoked)
	b.fails(9, proto.Delete{Handle: kid}, api.ErrRevoked)
	b.does(2, proto.Quota{}, "\x00\x03\x00\x00")
	b.does(9, proto.Delete{Handle: top}, "")
	if _, e := capt.Get(b.x, 1); e != api.ErrNone {
		t.Error(e)
	}
}

// P22.2: Move and List.
func TestMoveList(t *testing.T) {
	b := newBed(t)
	top, other := b.mint(7), b.mint(3)
	one, two := b.derive(top, 1, 0), b.derive(top, 4, 0)
	b.does(9, proto.List{Handle: top, Most: 10}, "\x00\x00\x03\x00\x00\x04")
	b.does(9, proto.List{Handle: top, From: 4, Most: 10}, "\x00\x00\x04")
	b.does(9, proto.List{Handle: top, Most: 1}, "\x00\x00\x03")
	b.does(9, proto.List{Handle: top}, "")
	b.fails(9, proto.Move{Handle: two, To: other}, api.ErrRights)
	b.fails(9, proto.Move{Handle: strings.Repeat("x", 29), To: other}, api.ErrForm)
	b.fails(9, proto.Move{Handle: one, To: strings.Repeat("x", 29)}, api.ErrForm)
	b.fails(9, proto.Move{Handle: top, To: other}, api.ErrState)
	b.does(9, proto.Move{Handle: one, To: other}, "")
	b.does(9, proto.List{Handle: other, Most: 10}, "\x00\x00\x03")
	b.fails(9, proto.List{Handle: strings.Repeat("x", 29)}, api.ErrForm)
	key, _ := space.Key(space.Kid, 2, api.MaxID+1)
	b.x.Put(key, "")
	b.does(9, proto.List{Handle: other, Most: 10}, "\x00\x00\x03")
}

// P22.2: Rotate, of four draws.
func TestRotate(t *testing.T) {
	b := newBed(t)
	for n := range 4 {
		if body, used, e := desk.Do(b.x, 1, 0, proto.Rotate{}, make([]uint64, n)); body != "" || used != 0 || e != api.ErrBusy {
			t.Error(n, body, used, e)
		}
	}
	old := b.mint(1)
	body, used, e := desk.Do(b.x, 1, 0, proto.Rotate{}, []uint64{1<<64 - 1, 258, 0, 7, 9})
	if body != "\x00\x02" || used != 4 || e != api.OK {
		t.Error(body, used, e)
	}
	zero := strings.Repeat("\x00", 7)
	want := strings.Repeat("\xff", 8) + "\x00\x00\x00\x00\x00\x00\x01\x02" + zero + "\x00" + zero + "\x07"
	if n, now, _, _ := handle.Keys(b.x); n != 2 || now != want {
		t.Errorf("%d %x", n, now)
	}
	b.looks(old, 1, api.OK)
	desk.Do(b.x, 1, 0, proto.Rotate{}, make([]uint64, 4))
	b.looks(old, 0, api.ErrNone)
}

// P22.3: what only looks changes nothing.
func TestLooksOnly(t *testing.T) {
	b := newBed(t)
	top := b.mint(7)
	b.derive(top, 1, 0)
	was, root := b.x.Scan(0, 1000), b.x.Root()
	for _, r := range []any{proto.Validate{Handle: top}, proto.Invoke{Handle: top, Right: 'a'}, proto.List{Handle: top, Most: 10}, proto.Quota{}, proto.Hello{Name: "ann"}} {
		if proto.Mutates(r) {
			t.Errorf("%T", r)
		}
		desk.Do(b.x, 1, 0, r, []uint64{5, 6, 7, 8})
	}
	if !slices.Equal(was, b.x.Scan(0, 1000)) || b.x.Root() != root {
		t.Error("changed")
	}
}

// The transaction's error goes ahead of all.
func TestTransactionError(t *testing.T) {
	b := newBed(t)
	for n := uint64(0); b.x.Err() == api.OK; n++ {
		b.x.Put(n, strings.Repeat("x", 40))
	}
	b.fails(1, nil, api.ErrFull)
	b.fails(1, proto.Quota{}, api.ErrFull)
	b.fails(1, proto.Rotate{}, api.ErrFull)
	b.looks("", 0, api.ErrFull)
}
