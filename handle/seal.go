package handle

import (
	"bailiwick/api"
	"bailiwick/capt"
	"bailiwick/num"
	"bailiwick/slot"
	"bailiwick/space"
	"bailiwick/txn"
	"bailiwick/within"
)

// The Metas of the keys.
const (
	countMeta = 5
	nowMeta   = 6
	lastMeta  = 7
)

const (
	secretSize = 32
	countSize  = 3
)

// ring is the keys that there are.
type ring struct {
	number    int
	now, last string
}

// by tells the key of a number, if it still counts.
func (r ring) by(number int) (string, bool) {
	switch number {
	case r.number:
		return r.now, true
	case r.number - 1:
		return r.last, true
	}
	return "", false
}

func metaKey(n int) uint64 {
	key, _ := space.Key(space.Meta, 0, n)
	return key
}

// keys tells the ring.
func keys(t *txn.Txn) (ring, api.Errno) {
	return within.Value(t, func() (ring, api.Errno) {
		n, e := capt.Number(t, countMeta)
		if e == api.OK && n > lastNumber {
			e = api.ErrForm
		}
		now, _ := t.Get(metaKey(nowMeta))
		last, _ := t.Get(metaKey(lastMeta))
		return ring{n, now, last}, e
	})
}

// Keys tells how many keys there were, the one that counts, and the one ahead of it.
func Keys(t *txn.Txn) (number int, now, last string, e api.Errno) {
	r, e := keys(t)
	return r.number, r.now, r.last, e
}

// Rotate makes a secret the key that counts.
func Rotate(t *txn.Txn, secret string) (int, api.Errno) {
	return within.Value(t, func() (int, api.Errno) {
		if len(secret) != secretSize {
			return 0, api.ErrArg
		}
		r, e := keys(t)
		if e != api.OK {
			return 0, e
		}
		if r.number == lastNumber {
			return 0, api.ErrFull
		}
		count, _ := num.Put(uint64(r.number+1), countSize)
		t.Put(metaKey(countMeta), count)
		t.Put(metaKey(lastMeta), r.now)
		t.Put(metaKey(nowMeta), secret)
		return r.number + 1, api.OK
	})
}

// Seal makes a handle that leads to a cap.
func Seal(t *txn.Txn, cap int, draws []uint64) (s string, used int, e api.Errno) {
	e = within.Errno(t, func() (e api.Errno) {
		s, used, e = seal(t, cap, draws)
		return e
	})
	if t.Err() != api.OK {
		return "", 0, e
	}
	return s, used, e
}

// seal tells how many draws were tried with an error, too.
func seal(t *txn.Txn, cap int, draws []uint64) (string, int, api.Errno) {
	r, e := keys(t)
	if e != api.OK {
		return "", 0, e
	}
	if r.number == 0 {
		return "", 0, api.ErrState
	}
	used := 0
	var x api.Slot
draw:
	for {
		if used == min(len(draws), api.Tries) {
			return "", used, api.ErrBusy
		}
		x, e = slot.Take(t, cap, draws[used])
		used++
		switch e {
		case api.OK:
			break draw
		case api.ErrBusy:
			continue draw
		}
		return "", used, e
	}
	s, e := Put(api.Handle{Slot: x.ID, Epoch: x.Epoch, Nonce: x.Nonce, KeyNumber: r.number}, r.now)
	return s, used, e
}

// Open tells the cap to which a handle leads.
func Open(t *txn.Txn, s string) (int, api.Errno) {
	return within.Value(t, func() (int, api.Errno) {
		h, tag, e := Take(s)
		if e != api.OK {
			return 0, e
		}
		r, e := keys(t)
		if e != api.OK {
			return 0, e
		}
		key, is := r.by(h.KeyNumber)
		if !is {
			return 0, api.ErrNone
		}
		if !Check(h, tag, key) {
			return 0, api.ErrSum
		}
		return lead(t, h)
	})
}

// lead goes to the slot of a handle whose tag is right.
func lead(t *txn.Txn, h api.Handle) (int, api.Errno) {
	x, e := slot.At(t, h.Slot)
	switch {
	case e != api.OK:
		return 0, e
	case x.Epoch > h.Epoch || x.Cap == 0:
		return 0, api.ErrRevoked
	case x.Epoch != h.Epoch || x.Nonce != h.Nonce:
		return 0, api.ErrNone
	}
	return x.Cap, api.OK
}
