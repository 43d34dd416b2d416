package capt

import (
	"bailiwick/api"
	"bailiwick/num"
	"bailiwick/space"
	"bailiwick/txn"
	"bailiwick/within"
)

// The Metas of the numbers that this layer gives.
const (
	capNumbers   = 1
	ownerNumbers = 2
)

const numberSize = 3

func isID(n int) bool { return 1 <= n && n <= api.MaxID }

// keyOf is the key of parts that are known to be right.
func keyOf(kind, a, b int) uint64 {
	key, _ := space.Key(kind, a, b)
	return key
}

// Number tells the last number that was given, of a Meta.
func Number(t *txn.Txn, n int) (int, api.Errno) {
	return within.Value(t, func() (int, api.Errno) {
		key, ok := space.Key(space.Meta, 0, n)
		if !ok {
			return 0, api.ErrArg
		}
		value, is := t.Get(key)
		if !is {
			return 0, api.OK
		}
		last, rest, e := num.Take(value, numberSize)
		if e != api.OK || rest != "" {
			return 0, api.ErrForm
		}
		return int(last), api.OK
	})
}

// newNumber tells the number behind the last one; nothing is written yet.
func newNumber(t *txn.Txn, meta int) (int, api.Errno) {
	last, e := Number(t, meta)
	if e != api.OK {
		return 0, e
	}
	if last == api.MaxID {
		return 0, api.ErrFull
	}
	return last + 1, api.OK
}

// giveNumber writes that a number was given.
func giveNumber(t *txn.Txn, meta, n int) {
	value, _ := num.Put(uint64(n), numberSize)
	t.Put(keyOf(space.Meta, 0, meta), value)
}
