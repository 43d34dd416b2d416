package intent

import (
	"bailiwick/api"
	"bailiwick/capt"
	"bailiwick/slot"
	"bailiwick/space"
	"bailiwick/txn"
	"bailiwick/within"
)

// mostTurns is more than a sound tree ever needs, of so many pages. In another one a key may be seen that can't be deleted.
const mostTurns = 1 << 16

// place is a cap on a stack.
type place struct{ depth, cap int }

// intent is one as its keys tell it.
type intent struct {
	txn    *txn.Txn
	number int
	itself bool
	stack  []place // the top last
}

// Step goes on with the intents, till so many caps have been swept, or none is left.
func Step(t *txn.Txn, chunk int) (swept int, e api.Errno) {
	return within.Value(t, func() (int, api.Errno) {
		swept := 0
		for turns := 0; swept < chunk; turns++ {
			if turns == mostTurns {
				return 0, api.ErrForm
			}
			in, is, e := first(t)
			if e != api.OK {
				return 0, e
			}
			if !is {
				break
			}
			removed, e := in.turn()
			if e != api.OK {
				return 0, e
			}
			if removed {
				swept++
			}
		}
		return swept, api.OK
	})
}

// first tells the intent of the least number, if there is one.
func first(t *txn.Txn) (in intent, is bool, e api.Errno) {
	for number, value := range within.Numbers(t, space.Intent, 0, 0) {
		in, e = take(t, number, value)
		return in, e == api.OK, e
	}
	return intent{}, false, t.Err()
}

// take reads an intent and its stack.
func take(t *txn.Txn, number int, value string) (intent, api.Errno) {
	if len(value) != idSize+len(self) || value[idSize:] != others && value[idSize:] != self {
		return intent{}, api.ErrForm
	}
	in := intent{txn: t, number: number, itself: value[idSize:] == self}
	for depth, value := range within.Numbers(t, space.Stack, number, 0) {
		cap, e := takeID(value)
		if e != api.OK || depth > api.MaxDepth {
			return intent{}, api.ErrForm
		}
		in.stack = append(in.stack, place{depth, cap})
	}
	if len(in.stack) == 0 {
		return intent{}, api.ErrForm
	}
	return in, api.OK
}

func (in intent) top() place { return in.stack[len(in.stack)-1] }

// turn goes through the top: was a cap removed?
func (in intent) turn() (bool, api.Errno) {
	top := in.top()
	c, e := capt.Get(in.txn, top.cap)
	if e == api.ErrNone {
		return false, in.passOver()
	}
	if e != api.OK {
		return false, e
	}
	kid, is, e := in.kid(c)
	switch {
	case e != api.OK:
		return false, e
	case is:
		return false, in.deeper(kid)
	case in.stays(top):
		return false, in.takeOff()
	}
	e = inTurn(in.txn)(
		func() api.Errno { _, e := slot.Free(in.txn, top.cap); return e },
		func() api.Errno { return capt.Remove(in.txn, top.cap) },
		in.takeOff,
	)
	return true, e
}

// stays tells if a cap is there when all is swept: just what is below it was revoked.
func (in intent) stays(p place) bool { return p.depth == 0 && !in.itself }

// kid tells the least child of the top that is to be swept, if there is one.
func (in intent) kid(c api.Cap) (int, bool, api.Errno) {
	kids, e := capt.Kids(in.txn, c.ID, 0, 1)
	if e != api.OK || len(kids) == 0 || in.stays(in.top()) && kids[0] > c.Cut {
		return 0, false, e
	}
	return kids[0], true, api.OK
}

// deeper lays a child of the top on the stack.
func (in intent) deeper(kid int) api.Errno {
	depth := in.top().depth + 1
	if depth > api.MaxDepth {
		return api.ErrForm
	}
	in.txn.Put(keyOf(space.Stack, in.number, depth), id(kid))
	return in.txn.Err()
}

// passOver takes off a cap that is not there any more, so that the one ahead of it does not come upon it again.
func (in intent) passOver() api.Errno {
	if last := len(in.stack) - 1; last > 0 && in.stack[last-1].cap != 0 {
		in.txn.Delete(keyOf(space.Kid, in.stack[last-1].cap, in.top().cap))
	}
	return in.takeOff()
}

// takeOff takes the top off; with the last one the intent is done.
func (in intent) takeOff() api.Errno {
	in.txn.Delete(keyOf(space.Stack, in.number, in.top().depth))
	if len(in.stack) == 1 {
		in.txn.Delete(keyOf(space.Intent, 0, in.number))
	}
	return in.txn.Err()
}
