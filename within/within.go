// Package within has what the layers over a transaction share: how a call there tells errors, and how keys are gone through.
package within

import (
	"iter"

	"bailiwick/api"
	"bailiwick/space"
	"bailiwick/txn"
)

// Value does a call that answers a value. The transaction's error goes ahead of the call's own, and nothing is told with either.
func Value[T any](t *txn.Txn, call func() (T, api.Errno)) (T, api.Errno) {
	var none, value T
	e := Errno(t, func() (e api.Errno) {
		value, e = call()
		return e
	})
	if e != api.OK {
		return none, e
	}
	return value, api.OK
}

// Errno does a call that answers just an error.
func Errno(t *txn.Txn, call func() api.Errno) api.Errno {
	if e := t.Err(); e != api.OK {
		return e
	}
	own := call()
	if e := t.Err(); e != api.OK {
		return e
	}
	return own
}

// Keys goes through the keys that are not below one. The next one is looked for only when it is asked for.
func Keys(t *txn.Txn, from uint64) iter.Seq2[uint64, string] {
	return func(yield func(uint64, string) bool) {
		for ok := true; ok; {
			list := t.Scan(from, 1)
			if len(list) == 0 || !yield(list[0].Key, list[0].Value) {
				return
			}
			from, ok = space.Next(list[0].Key)
		}
	}
}

// Numbers goes through the keys of one kind and one first number, by their second numbers, which are not below one.
func Numbers(t *txn.Txn, kind, first, from int) iter.Seq2[int, string] {
	return func(yield func(int, string) bool) {
		begin, ok := space.Key(kind, first, from)
		if !ok {
			return
		}
		for key, value := range Keys(t, begin) {
			_, _, n := space.Split(key)
			if !space.In(key, kind, first) || !yield(n, value) {
				return
			}
		}
	}
}
