package rec_test

import (
	"strings"
	"testing"

	"bailiwick/api"
	"bailiwick/rec"
)

const big = 1<<63 - 1

func someCap() api.Cap {
	return api.Cap{ID: 9, Parent: 4, Object: 258, Owner: 3, Rights: 5, Badge: 1 << 31, Depth: 2, Expiry: 77, Cut: 12, Revoked: true}
}

// P14.1: a cap's bytes.
func TestCap(t *testing.T) {
	c := someCap()
	want := "\x00\x00\x04" + "\x00\x01\x02" + "\x00\x00\x03" + "\x00\x05" + "\x80\x00\x00\x00" + "\x02" + "\x00\x00\x00\x4d" + "\x00\x00\x0c" + "\x01"
	if s, e := rec.PutCap(c); s != want || e != api.OK {
		t.Errorf("%x %d", s, e)
	}
	if got, e := rec.TakeCap(9, want); got != c || e != api.OK {
		t.Error(got, e)
	}
	for _, s := range []string{"", want[:23], want + "\x00", want[:23] + "\x02", want[:14] + "\xff\xff\xff", strings.Repeat("\x00", 24), strings.Repeat("\xff", 24)} {
		if got, e := rec.TakeCap(9, s); got != (api.Cap{}) || e != api.ErrForm {
			t.Errorf("TakeCap(%x) = %v, %d", s, got, e)
		}
	}
	for _, id := range []int{4, 0, -1, api.MaxID + 1, big, -1 << 63} {
		if got, e := rec.TakeCap(id, want); got != (api.Cap{}) || e != api.ErrForm {
			t.Errorf("TakeCap of %d: %v, %d", id, got, e)
		}
	}
}

// P14.1: which caps are right.
func TestCapRight(t *testing.T) {
	change := func(f func(c *api.Cap)) api.Cap {
		c := someCap()
		f(&c)
		return c
	}
	for i, c := range []api.Cap{
		someCap(),
		change(func(c *api.Cap) { c.Parent, c.Depth = 0, 1 }),
		change(func(c *api.Cap) { c.ID = api.MaxID }),
		change(func(c *api.Cap) { c.Parent, c.Depth = api.MaxID, 8 }),
		change(func(c *api.Cap) { c.Object, c.Owner, c.Cut = api.MaxID, api.MaxID, api.MaxID }),
		change(func(c *api.Cap) { c.Rights, c.Badge, c.Expiry = 65535, 1<<32-1, api.MaxClock }),
		change(func(c *api.Cap) { c.Rights, c.Badge, c.Expiry, c.Cut, c.Revoked = 0, 0, 0, 0, false }),
	} {
		s, e := rec.PutCap(c)
		if !rec.CapRight(c) || e != api.OK {
			t.Errorf("right cap %d is not (%d)", i, e)
		}
		if got, e := rec.TakeCap(c.ID, s); got != c || e != api.OK || len(s) > api.MaxValue {
			t.Errorf("cap %d: %v, %d", i, got, e)
		}
	}
	for i, f := range []func(c *api.Cap){
		func(c *api.Cap) { c.ID = 0 }, func(c *api.Cap) { c.ID = api.MaxID + 1 }, func(c *api.Cap) { c.ID = -1 },
		func(c *api.Cap) { c.Parent = -1 }, func(c *api.Cap) { c.Parent = api.MaxID + 1 }, func(c *api.Cap) { c.Parent = 0 },
		func(c *api.Cap) { c.Parent = c.ID }, func(c *api.Cap) { c.Depth = 1 }, func(c *api.Cap) { c.Depth = 0 }, func(c *api.Cap) { c.Depth = 9 },
		func(c *api.Cap) { c.Parent, c.Depth = 0, 0 },
		func(c *api.Cap) { c.Object = 0 }, func(c *api.Cap) { c.Object = api.MaxID + 1 },
		func(c *api.Cap) { c.Owner = 0 }, func(c *api.Cap) { c.Owner = api.MaxID + 1 },
		func(c *api.Cap) { c.Rights = -1 }, func(c *api.Cap) { c.Rights = 65536 },
		func(c *api.Cap) { c.Badge = -1 }, func(c *api.Cap) { c.Badge = 1 << 32 },
		func(c *api.Cap) { c.Expiry = -1 }, func(c *api.Cap) { c.Expiry = api.MaxClock + 1 },
		func(c *api.Cap) { c.Cut = -1 }, func(c *api.Cap) { c.Cut = api.MaxID + 1 },
		func(c *api.Cap) { c.Object = big }, func(c *api.Cap) { c.Badge = -1 << 63 },
	} {
		c := change(f)
		if s, e := rec.PutCap(c); rec.CapRight(c) || s != "" || e != api.ErrArg {
			t.Errorf("wrong cap %d is right (%d)", i, e)
		}
	}
}

// P14.2: principals.
func TestOwner(t *testing.T) {
	o := api.Owner{ID: 7, Name: "ann.é", Limit: 258, Have: 2}
	want := "\x01\x02\x00\x02\x06ann.\xc3\xa9"
	if s, e := rec.PutOwner(o); s != want || e != api.OK {
		t.Errorf("%x %d", s, e)
	}
	if got, e := rec.TakeOwner(7, want); got != o || e != api.OK {
		t.Error(got, e)
	}
	for _, s := range []string{"", want[:10], want + "x", "\x00\x01\x00\x02\x01a", "\x03\xe9\x00\x02\x01a", "\x00\x02\x00\x02\x01A", "\x00\x02\x00\x02\x00", "\x00\x02\x00\x02"} {
		if got, e := rec.TakeOwner(7, s); got != (api.Owner{}) || e != api.ErrForm {
			t.Errorf("TakeOwner(%x) = %v, %d", s, got, e)
		}
	}
	for _, id := range []int{0, -1, api.MaxID + 1, big} {
		if got, e := rec.TakeOwner(id, want); got != (api.Owner{}) || e != api.ErrForm {
			t.Errorf("TakeOwner of %d: %v, %d", id, got, e)
		}
	}
	for _, o := range []api.Owner{{ID: 1, Name: "a"}, {ID: api.MaxID, Name: strings.Repeat("é", 16), Limit: 1000, Have: 1000}} {
		s, e := rec.PutOwner(o)
		if got, e2 := rec.TakeOwner(o.ID, s); !rec.OwnerRight(o) || e != api.OK || e2 != api.OK || got != o || len(s) > api.MaxValue {
			t.Error(o, e, got, e2)
		}
	}
	for _, o := range []api.Owner{
		{ID: 0, Name: "a"}, {ID: api.MaxID + 1, Name: "a"}, {ID: 1, Name: ""}, {ID: 1, Name: "A"}, {ID: 1, Name: "a."}, {ID: 1, Name: strings.Repeat("a", 17)},
		{ID: 1, Name: "a", Limit: -1}, {ID: 1, Name: "a", Limit: 1001}, {ID: 1, Name: "a", Limit: 1, Have: 2}, {ID: 1, Name: "a", Limit: 1, Have: -1},
	} {
		if s, e := rec.PutOwner(o); rec.OwnerRight(o) || s != "" || e != api.ErrArg {
			t.Error(o, e)
		}
	}
}

// P14.3: slots.
func TestSlot(t *testing.T) {
	x := api.Slot{ID: 1, Cap: 5, Epoch: 2, Nonce: 7}
	want := "\x00\x00\x05\x02\x00\x00\x00\x00\x00\x00\x00\x07"
	if s, e := rec.PutSlot(x); s != want || e != api.OK {
		t.Errorf("%x %d", s, e)
	}
	if got, e := rec.TakeSlot(1, want); got != x || e != api.OK {
		t.Error(got, e)
	}
	for _, s := range []string{"", want[:11], want + "\x00", "\x00\x00\x05\x00" + want[4:], "\x00\x00\x05\x11" + want[4:], "\x00\x00\x05\x10" + want[4:]} {
		if got, e := rec.TakeSlot(1, s); got != (api.Slot{}) || e != api.ErrForm {
			t.Errorf("TakeSlot(%x) = %v, %d", s, got, e)
		}
	}
	for _, id := range []int{0, -1, 201, big} {
		if got, e := rec.TakeSlot(id, want); got != (api.Slot{}) || e != api.ErrForm {
			t.Errorf("TakeSlot of %d: %v, %d", id, got, e)
		}
	}
	for _, x := range []api.Slot{{ID: 200, Cap: api.MaxID, Epoch: 15, Nonce: 1<<64 - 1}, {ID: 1, Epoch: 1}, {ID: 1, Epoch: 16, Nonce: 3}, {ID: 1, Epoch: 1, Nonce: 9}} {
		s, e := rec.PutSlot(x)
		if got, e2 := rec.TakeSlot(x.ID, s); !rec.SlotRight(x) || e != api.OK || e2 != api.OK || got != x {
			t.Error(x, e, got, e2)
		}
	}
	for _, x := range []api.Slot{{ID: 0, Epoch: 1}, {ID: 201, Epoch: 1}, {ID: 1}, {ID: 1, Epoch: 17}, {ID: 1, Epoch: -1}, {ID: 1, Cap: 1, Epoch: 16}, {ID: 1, Cap: -1, Epoch: 1}, {ID: 1, Cap: api.MaxID + 1, Epoch: 1}} {
		if s, e := rec.PutSlot(x); rec.SlotRight(x) || s != "" || e != api.ErrArg {
			t.Error(x, e)
		}
	}
}
