package txn_test

import (
	"slices"
	"strings"
	"testing"

	"bailiwick/api"
	"bailiwick/disk"
	"bailiwick/shadow"
	"bailiwick/txn"
)

func newStore(t *testing.T, sectors int) (*disk.Disk, *shadow.Store) {
	t.Helper()
	d, e := disk.New(sectors)
	if e != api.OK {
		t.Fatal(e)
	}
	s, e := shadow.Format(d)
	if e != api.OK {
		t.Fatal(e)
	}
	return d, s
}

func is(t *testing.T, what string, got, want any) {
	t.Helper()
	if got != want {
		t.Errorf("%s: %v, not %v", what, got, want)
	}
}

// silent tells if the calls answer nothing any more.
func silent(t *testing.T, x *txn.Txn) {
	t.Helper()
	if v, ok := x.Get(1); v != "" || ok {
		t.Error("Get", v, ok)
	}
	if x.Put(1, "a") || x.Put(1, strings.Repeat("x", 41)) || x.Delete(1) {
		t.Error("Put or Delete")
	}
	if list := x.Scan(0, 9); len(list) != 0 {
		t.Error("Scan", list)
	}
}

// P12.1: the tree's calls, and the root they make.
func TestCalls(t *testing.T) {
	_, s := newStore(t, 20)
	x := txn.Begin(s)
	is(t, "Root", x.Root(), 0)
	is(t, "Put", x.Put(2, "b"), true)
	is(t, "Put", x.Put(1, "a"), true)
	is(t, "Root", x.Root(), 2)
	if v, ok := x.Get(2); v != "b" || !ok {
		t.Error(v, ok)
	}
	if v, ok := x.Get(3); v != "" || ok {
		t.Error(v, ok)
	}
	if got := x.Scan(0, 9); !slices.Equal(got, []api.Entry{{Key: 1, Value: "a"}, {Key: 2, Value: "b"}}) {
		t.Error(got)
	}
	is(t, "Delete", x.Delete(3), false)
	is(t, "Delete", x.Delete(1), true)
	is(t, "Delete", x.Delete(1), false)
	is(t, "Err", x.Err(), api.OK)
	is(t, "Over", x.Over(), false)
	is(t, "Root of the store", s.Root(), 0)
}

// P12.1: a value that may not be is told by false alone.
func TestLongValue(t *testing.T) {
	_, s := newStore(t, 20)
	x := txn.Begin(s)
	is(t, "Put", x.Put(1, strings.Repeat("x", 41)), false)
	is(t, "Err", x.Err(), api.OK)
	is(t, "Put", x.Put(1, strings.Repeat("x", 40)), true)
	is(t, "Commit", x.Commit(), api.OK)
}

// P12.1: with an error of the tree nothing goes on.
func TestError(t *testing.T) {
	_, s := newStore(t, 8)
	x := txn.Begin(s)
	long := strings.Repeat("x", 40)
	key := uint64(0)
	for x.Put(key, long) {
		key++
		if key > 100 {
			t.Fatal("a disk without end")
		}
	}
	is(t, "Err", x.Err(), api.ErrFull)
	root := x.Root()
	if root == 0 {
		t.Error("the root is lost")
	}
	silent(t, x)
	is(t, "Err", x.Err(), api.ErrFull)
	is(t, "Root", x.Root(), root)
	is(t, "Commit", x.Commit(), api.ErrFull)
	is(t, "Over", x.Over(), true)
	is(t, "Err", x.Err(), api.ErrFull)
	is(t, "Left", s.Left(), 6)
	is(t, "Commit", x.Commit(), api.ErrState)
	y := txn.Begin(s)
	is(t, "Scan", len(y.Scan(0, 9)), 0)
	is(t, "Err", y.Err(), api.OK)
}

// P12.1: each call keeps the tree's error.
func TestEachError(t *testing.T) {
	for i, call := range []func(x *txn.Txn){
		func(x *txn.Txn) { x.Get(1) },
		func(x *txn.Txn) { x.Put(1, "b") },
		func(x *txn.Txn) { x.Delete(1) },
		func(x *txn.Txn) { x.Scan(0, 1) },
	} {
		d, s := newStore(t, 8)
		x := txn.Begin(s)
		x.Put(1, "a")
		x.Commit()
		x = txn.Begin(s)
		d.Fuse(0)
		d.Write(7, strings.Repeat("x", 256))
		call(x)
		if x.Err() != api.ErrDown || x.Over() || s.Up() {
			t.Error(i, x.Err())
		}
		silent(t, x)
		is(t, "Commit", x.Commit(), api.ErrDown)
	}
}

// P12.2: a transaction that is over.
func TestOver(t *testing.T) {
	for _, end := range []func(x *txn.Txn){
		func(x *txn.Txn) { x.Commit() },
		func(x *txn.Txn) { x.Drop() },
	} {
		_, s := newStore(t, 8)
		x := txn.Begin(s)
		x.Put(1, "a")
		end(x)
		is(t, "Over", x.Over(), true)
		is(t, "Root", x.Root(), 0)
		is(t, "Err", x.Err(), api.OK)
		silent(t, x)
		is(t, "Commit", x.Commit(), api.ErrState)
		gen := s.Gen()
		y := txn.Begin(s)
		y.Put(2, "b")
		x.Drop()
		is(t, "Commit of the next one", y.Commit(), api.OK)
		is(t, "Gen", s.Gen(), gen+1)
	}
}

// P12.2: an error of the store's Commit is told, and the store is rolled back.
func TestCommitError(t *testing.T) {
	d, s := newStore(t, 8)
	x := txn.Begin(s)
	x.Put(1, "a")
	d.Fuse(0)
	is(t, "Commit", x.Commit(), api.ErrDown)
	is(t, "Over", x.Over(), true)
	is(t, "Err", x.Err(), api.OK)
	is(t, "Fresh", s.Fresh(2), false)
	is(t, "Commit", x.Commit(), api.ErrState)
}

// P12.3: what was dropped is not seen; what was committed is, behind a crash too.
func TestFollows(t *testing.T) {
	d, s := newStore(t, 20)
	x := txn.Begin(s)
	x.Put(1, "a")
	x.Commit()
	x = txn.Begin(s)
	x.Put(1, "b")
	x.Put(2, "b")
	x.Drop()
	is(t, "Left", s.Left(), 17)
	y := txn.Begin(s)
	y.Put(3, "left undone")
	x = txn.Begin(s)
	if got := x.Scan(0, 9); !slices.Equal(got, []api.Entry{{Key: 1, Value: "a"}}) {
		t.Error(got)
	}
	is(t, "Delete", x.Delete(1), true)
	is(t, "Put", x.Put(4, "d"), true)
	is(t, "Commit", x.Commit(), api.OK)
	d.Crash(nil)
	s, e := shadow.Mount(d)
	is(t, "Mount", e, api.OK)
	if got := txn.Begin(s).Scan(0, 9); !slices.Equal(got, []api.Entry{{Key: 4, Value: "d"}}) {
		t.Error(got)
	}
}
