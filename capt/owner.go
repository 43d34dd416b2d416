package capt

import (
	"bailiwick/api"
	"bailiwick/label"
	"bailiwick/rec"
	"bailiwick/space"
	"bailiwick/txn"
	"bailiwick/within"
)

// Register makes a new principal.
func Register(t *txn.Txn, name string, limit int) (int, api.Errno) {
	return within.Value(t, func() (int, api.Errno) {
		folded, ok := label.Fold(name)
		if !ok || limit < 0 || limit > api.MaxQuota {
			return 0, api.ErrArg
		}
		switch _, e := Named(t, folded); e {
		case api.ErrNone:
		case api.OK:
			return 0, api.ErrExists
		default:
			return 0, e
		}
		id, e := newNumber(t, ownerNumbers)
		if e != api.OK {
			return 0, e
		}
		giveNumber(t, ownerNumbers, id)
		putOwner(t, api.Owner{ID: id, Name: folded, Limit: limit})
		return id, api.OK
	})
}

// putOwner writes a principal that is right.
func putOwner(t *txn.Txn, o api.Owner) {
	value, _ := rec.PutOwner(o)
	t.Put(keyOf(space.Owner, 0, o.ID), value)
}

// OwnerOf tells the principal of a number.
func OwnerOf(t *txn.Txn, id int) (api.Owner, api.Errno) {
	return within.Value(t, func() (api.Owner, api.Errno) {
		if !isID(id) {
			return api.Owner{}, api.ErrNone
		}
		value, is := t.Get(keyOf(space.Owner, 0, id))
		if !is {
			return api.Owner{}, api.ErrNone
		}
		return rec.TakeOwner(id, value)
	})
}

// Named tells the principal of a name.
func Named(t *txn.Txn, name string) (api.Owner, api.Errno) {
	return within.Value(t, func() (api.Owner, api.Errno) {
		folded, ok := label.Fold(name)
		if !ok {
			return api.Owner{}, api.ErrArg
		}
		for id, value := range within.Numbers(t, space.Owner, 0, 0) {
			if !isID(id) {
				break
			}
			o, e := rec.TakeOwner(id, value)
			if e != api.OK || o.Name == folded {
				return o, e
			}
		}
		return api.Owner{}, api.ErrNone
	})
}
