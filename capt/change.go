package capt

import (
	"bailiwick/api"
	"bailiwick/rec"
	"bailiwick/rights"
	"bailiwick/space"
	"bailiwick/txn"
	"bailiwick/within"
)

const lastBadge = 1<<32 - 1

// mayBe tells if a cap may have these.
func mayBe(mask, badge, expiry int) bool {
	return rights.Sub(mask, mask) && 0 <= badge && badge <= lastBadge && 0 <= expiry && expiry <= api.MaxClock
}

// putCap writes a cap. One that has no bytes, as its own parent, is laid as nothing.
func putCap(t *txn.Txn, c api.Cap) {
	value, _ := rec.PutCap(c)
	t.Put(keyOf(space.Cap, 0, c.ID), value)
}

// add gives a cap its number, and makes all the keys that tell of it.
func add(t *txn.Txn, c api.Cap, o api.Owner) (int, api.Errno) {
	if o.Have >= o.Limit {
		return 0, api.ErrQuota
	}
	id, e := newNumber(t, capNumbers)
	if e != api.OK {
		return 0, e
	}
	c.ID, c.Owner = id, o.ID
	o.Have++
	giveNumber(t, capNumbers, id)
	putCap(t, c)
	putOwner(t, o)
	if c.Expiry != 0 {
		t.Put(keyOf(space.Lease, c.Expiry, id), "")
	}
	if c.Parent != 0 {
		t.Put(keyOf(space.Kid, c.Parent, id), "")
	}
	return id, api.OK
}

// Mint makes a cap without a parent.
func Mint(t *txn.Txn, owner, object, rights, badge, expiry int) (int, api.Errno) {
	return within.Value(t, func() (int, api.Errno) {
		if !isID(object) || !mayBe(rights, badge, expiry) {
			return 0, api.ErrArg
		}
		o, e := OwnerOf(t, owner)
		if e != api.OK {
			return 0, e
		}
		return add(t, api.Cap{Object: object, Rights: rights, Badge: badge, Depth: 1, Expiry: expiry}, o)
	})
}

// Derive makes a cap below another one.
func Derive(t *txn.Txn, parent, owner, rights, badge, expiry, now int) (int, api.Errno) {
	return within.Value(t, func() (int, api.Errno) {
		if !mayBe(rights, badge, expiry) {
			return 0, api.ErrArg
		}
		above, e := live(t, parent, now)
		if e != api.OK {
			return 0, e
		}
		o, e := OwnerOf(t, owner)
		if e != api.OK {
			return 0, e
		}
		if e := under(above, rights); e != api.OK {
			return 0, e
		}
		c := api.Cap{Parent: parent, Object: above.Object, Rights: rights, Badge: badge, Depth: above.Depth + 1, Expiry: expiry}
		return add(t, c, o)
	})
}

// live tells a cap that counts now.
func live(t *txn.Txn, id, now int) (api.Cap, api.Errno) {
	if e := State(t, id, now); e != api.OK {
		return api.Cap{}, e
	}
	return Get(t, id)
}

// under tells why a cap with these rights can't stand below another one.
func under(above api.Cap, mask int) api.Errno {
	if !rights.Sub(mask, above.Rights) {
		return api.ErrRights
	}
	if above.Depth >= api.MaxDepth {
		return api.ErrDepth
	}
	return api.OK
}

// childless tells if a cap has no children.
func childless(t *txn.Txn, id int) bool {
	kids, e := Kids(t, id, 0, 1)
	return e == api.OK && len(kids) == 0
}

// Remove takes a cap without children away.
func Remove(t *txn.Txn, id int) api.Errno {
	return within.Errno(t, func() api.Errno {
		c, e := Get(t, id)
		if e != api.OK {
			return e
		}
		if !childless(t, id) {
			return api.ErrState
		}
		o, e := OwnerOf(t, c.Owner)
		if e != api.OK && e != api.ErrNone {
			return e
		}
		if e == api.OK {
			o.Have = max(o.Have-1, 0)
			putOwner(t, o)
		}
		t.Delete(keyOf(space.Cap, 0, id))
		if c.Parent != 0 {
			t.Delete(keyOf(space.Kid, c.Parent, id))
		}
		if c.Expiry != 0 {
			t.Delete(keyOf(space.Lease, c.Expiry, id))
		}
		return api.OK
	})
}

// Move hangs a cap without children below another parent.
func Move(t *txn.Txn, id, parent, now int) api.Errno {
	return within.Errno(t, func() api.Errno {
		c, e := live(t, id, now)
		if e != api.OK {
			return e
		}
		above, e := live(t, parent, now)
		if e != api.OK {
			return e
		}
		if c.Parent == 0 || id == parent || id <= above.Cut || !childless(t, id) {
			return api.ErrState
		}
		if e := under(above, c.Rights); e != api.OK {
			return e
		}
		t.Delete(keyOf(space.Kid, c.Parent, id))
		c.Parent, c.Object, c.Depth = parent, above.Object, above.Depth+1
		putCap(t, c)
		t.Put(keyOf(space.Kid, parent, id), "")
		return api.OK
	})
}

// Revoke marks a cap as revoked, or all children that it has so far.
func Revoke(t *txn.Txn, id int, self bool) api.Errno {
	return within.Errno(t, func() api.Errno {
		c, e := Get(t, id)
		if e != api.OK {
			return e
		}
		last, e := Number(t, capNumbers)
		if e != api.OK {
			return e
		}
		if self {
			c.Revoked = true
		} else {
			c.Cut = last
		}
		putCap(t, c)
		return api.OK
	})
}
