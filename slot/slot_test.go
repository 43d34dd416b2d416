package slot_test

import (
	"math/rand"
	"slices"
	"strings"
	"testing"

	"bailiwick/api"
	"bailiwick/disk"
	"bailiwick/rec"
	"bailiwick/shadow"
	"bailiwick/slot"
	"bailiwick/space"
	"bailiwick/txn"
)

const far = 1<<63 - 1

func begin(t *testing.T, sectors int) *txn.Txn {
	t.Helper()
	d, _ := disk.New(sectors)
	s, e := shadow.Format(d)
	if e != api.OK {
		t.Fatal(e)
	}
	return txn.Begin(s)
}

func put(t *testing.T, x *txn.Txn, id int, value string) {
	t.Helper()
	key, ok := space.Key(space.Slot, 0, id)
	if !ok || !x.Put(key, value) {
		t.Fatal(id, x.Err())
	}
}

func lay(t *testing.T, x *txn.Txn, s api.Slot) {
	t.Helper()
	value, e := rec.PutSlot(s)
	if e != api.OK {
		t.Fatal(s, e)
	}
	put(t, x, s.ID, value)
}

func take(t *testing.T, x *txn.Txn, cap int, nonce uint64, want api.Slot) {
	t.Helper()
	if got, e := slot.Take(x, cap, nonce); got != want || e != api.OK {
		t.Errorf("Take(%d, %d) = %v, %d, not %v", cap, nonce, got, e, want)
	}
	if got, e := slot.At(x, want.ID); got != want || e != api.OK {
		t.Errorf("At(%d) = %v, %d, not %v", want.ID, got, e, want)
	}
}

func refused(t *testing.T, x *txn.Txn, cap int, nonce uint64, want api.Errno) {
	t.Helper()
	was := x.Scan(0, 1000)
	if got, e := slot.Take(x, cap, nonce); got != (api.Slot{}) || e != want {
		t.Errorf("Take(%d, %d) = %v, %d, not %d", cap, nonce, got, e, want)
	}
	if !slices.Equal(was, x.Scan(0, 1000)) {
		t.Error("changed by an error")
	}
}

func used(t *testing.T, x *txn.Txn, nonce uint64, want bool) {
	t.Helper()
	if got, e := slot.Used(x, nonce); got != want || e != api.OK {
		t.Errorf("Used(%d) = %v, %d", nonce, got, e)
	}
}

func free(t *testing.T, x *txn.Txn, cap, want int) {
	t.Helper()
	if n, e := slot.Free(x, cap); n != want || e != api.OK {
		t.Errorf("Free(%d) = %d, %d, not %d", cap, n, e, want)
	}
}

// P17.1: slots by number.
func TestAt(t *testing.T) {
	x := begin(t, 40)
	value, _ := rec.PutSlot(api.Slot{ID: 1, Cap: 4, Epoch: 1})
	put(t, x, 0, value)
	put(t, x, 201, value)
	for _, id := range []int{0, -1, 5, 201, far, -far - 1} {
		if s, e := slot.At(x, id); s != (api.Slot{}) || e != api.ErrNone {
			t.Error(id, s, e)
		}
	}
	put(t, x, 7, "bad")
	if s, e := slot.At(x, 7); s != (api.Slot{}) || e != api.ErrForm {
		t.Error(s, e)
	}
	lay(t, x, api.Slot{ID: 200, Epoch: 16})
	if s, e := slot.At(x, 200); s != (api.Slot{ID: 200, Epoch: 16}) || e != api.OK {
		t.Error(s, e)
	}
}

// P17.2: slots are taken, and freed with another epoch.
func TestTake(t *testing.T) {
	x := begin(t, 40)
	used(t, x, 7, false)
	take(t, x, 9, 7, api.Slot{ID: 1, Cap: 9, Epoch: 1, Nonce: 7})
	refused(t, x, 9, 7, api.ErrBusy)
	refused(t, x, 8, 7, api.ErrBusy)
	used(t, x, 7, true)
	used(t, x, 0, false)
	take(t, x, 8, 0, api.Slot{ID: 2, Cap: 8, Epoch: 1})
	used(t, x, 0, true)
	take(t, x, 9, 1<<64-1, api.Slot{ID: 3, Cap: 9, Epoch: 1, Nonce: 1<<64 - 1})
	for _, cap := range []int{0, -1, api.MaxID + 1, far, -far - 1} {
		refused(t, x, cap, 5, api.ErrArg)
		refused(t, x, cap, 7, api.ErrArg)
		free(t, x, cap, 0)
	}
	free(t, x, 9, 2)
	free(t, x, 9, 0)
	for _, id := range []int{1, 3} {
		if s, _ := slot.At(x, id); s != (api.Slot{ID: id, Epoch: 2}) {
			t.Error(s)
		}
	}
	used(t, x, 7, false)
	used(t, x, 0, true)
	take(t, x, api.MaxID, 7, api.Slot{ID: 1, Cap: api.MaxID, Epoch: 2, Nonce: 7})
	take(t, x, 4, 8, api.Slot{ID: 3, Cap: 4, Epoch: 2, Nonce: 8})
	take(t, x, 4, 9, api.Slot{ID: 4, Cap: 4, Epoch: 1, Nonce: 9})
}

// P17.2: a slot without a key is free; the nonce of a free slot is not used.
func TestGaps(t *testing.T) {
	x := begin(t, 40)
	lay(t, x, api.Slot{ID: 1, Cap: 1, Epoch: 3, Nonce: 1})
	lay(t, x, api.Slot{ID: 3, Epoch: 15, Nonce: 5})
	lay(t, x, api.Slot{ID: 4, Epoch: 16, Nonce: 6})
	used(t, x, 5, false)
	take(t, x, 2, 5, api.Slot{ID: 2, Cap: 2, Epoch: 1, Nonce: 5})
	take(t, x, 2, 6, api.Slot{ID: 3, Cap: 2, Epoch: 15, Nonce: 6})
	take(t, x, 2, 7, api.Slot{ID: 5, Cap: 2, Epoch: 1, Nonce: 7})
	free(t, x, 2, 3)
	if s, _ := slot.At(x, 3); s != (api.Slot{ID: 3, Epoch: 16}) {
		t.Error(s)
	}
	take(t, x, 2, 6, api.Slot{ID: 2, Cap: 2, Epoch: 2, Nonce: 6})
	take(t, x, 2, 7, api.Slot{ID: 5, Cap: 2, Epoch: 2, Nonce: 7})
}

// P17.2: there are so many slots, and so many epochs.
func TestFull(t *testing.T) {
	x := begin(t, 60)
	for id := 1; id <= api.MaxSlot; id++ {
		if id == 77 {
			lay(t, x, api.Slot{ID: id, Epoch: 16})
		} else {
			lay(t, x, api.Slot{ID: id, Cap: id, Epoch: 1, Nonce: uint64(id)})
		}
	}
	refused(t, x, 1, 0, api.ErrFull)
	refused(t, x, 1, 9, api.ErrBusy)
	free(t, x, 200, 1)
	take(t, x, 1, 0, api.Slot{ID: 200, Cap: 1, Epoch: 2})
	refused(t, x, 1, 300, api.ErrFull)
}

// A number that is none, and a value that is none, are ErrForm where they are come upon.
func TestForm(t *testing.T) {
	for _, c := range []struct {
		id    int
		value string
	}{{0, "\x00\x00\x00\x01" + strings.Repeat("\x00", 8)}, {201, "\x00\x00\x00\x01" + strings.Repeat("\x00", 8)}, {9, ""}, {9, "bad"}, {1<<32 - 1, ""}} {
		x := begin(t, 40)
		lay(t, x, api.Slot{ID: 5, Cap: 6, Epoch: 1, Nonce: 7})
		put(t, x, c.id, c.value)
		refused(t, x, 1, 8, api.ErrForm)
		refused(t, x, 0, 8, api.ErrArg)
		if is, e := slot.Used(x, 8); is || e != api.ErrForm {
			t.Error(c, is, e)
		}
		was := x.Scan(0, 100)
		if n, e := slot.Free(x, 6); n != 0 || e != api.ErrForm || !slices.Equal(was, x.Scan(0, 100)) {
			t.Error(c, n, e)
		}
	}
	x := begin(t, 40)
	key, _ := space.Key(space.Slot, 1, 3)
	x.Put(key, "of another first number")
	take(t, x, 1, 8, api.Slot{ID: 1, Cap: 1, Epoch: 1, Nonce: 8})
	free(t, x, 1, 1)
}

// P17.3: no two live slots have one nonce; a slot never has an epoch again; behind the last one it is never taken.
func TestFollows(t *testing.T) {
	x := begin(t, 60)
	r := rand.New(rand.NewSource(17))
	type life struct{ slot, epoch int }
	lives := map[life]bool{}
	for range 400 {
		if r.Intn(3) == 0 {
			slot.Free(x, 1+r.Intn(4))
			continue
		}
		nonce := uint64(r.Intn(30))
		was, _ := slot.Used(x, nonce)
		s, e := slot.Take(x, 1+r.Intn(4), nonce)
		if was != (e == api.ErrBusy) {
			t.Fatal(was, e)
		}
		if e != api.OK {
			continue
		}
		if lives[life{s.ID, s.Epoch}] || s.Epoch > api.MaxEpoch {
			t.Fatal(s)
		}
		lives[life{s.ID, s.Epoch}] = true
	}
	if !lives[life{1, 15}] {
		t.Error("no slot came to its last epoch")
	}
}

// The transaction's error goes ahead of all.
func TestTransactionError(t *testing.T) {
	x := begin(t, 8)
	for n := uint64(0); x.Err() == api.OK; n++ {
		x.Put(n, strings.Repeat("x", 40))
	}
	for i, call := range []func() api.Errno{
		func() api.Errno { _, e := slot.At(x, 0); return e },
		func() api.Errno { _, e := slot.Used(x, 1); return e },
		func() api.Errno { _, e := slot.Take(x, 0, 1); return e },
		func() api.Errno { _, e := slot.Free(x, 1); return e },
	} {
		if e := call(); e != api.ErrFull {
			t.Error(i, e)
		}
	}
}
