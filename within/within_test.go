package within_test

import (
	"slices"
	"strings"
	"testing"

	"bailiwick/api"
	"bailiwick/disk"
	"bailiwick/shadow"
	"bailiwick/space"
	"bailiwick/txn"
	"bailiwick/within"
)

func begin(t *testing.T) *txn.Txn {
	t.Helper()
	d, _ := disk.New(8)
	s, e := shadow.Format(d)
	if e != api.OK {
		t.Fatal(e)
	}
	return txn.Begin(s)
}

// fill makes the transaction tell ErrFull.
func fill(x *txn.Txn) {
	for key := uint64(1 << 63); x.Put(key, strings.Repeat("x", 40)); key++ {
	}
}

// The transaction's error goes ahead of the call's own, and nothing is told with either.
func TestErrors(t *testing.T) {
	x := begin(t)
	if n, e := within.Value(x, func() (int, api.Errno) { return 5, api.OK }); n != 5 || e != api.OK {
		t.Error(n, e)
	}
	if n, e := within.Value(x, func() (int, api.Errno) { return 5, api.ErrArg }); n != 0 || e != api.ErrArg {
		t.Error(n, e)
	}
	for _, own := range []api.Errno{api.OK, api.ErrArg} {
		x = begin(t)
		if n, e := within.Value(x, func() (int, api.Errno) { fill(x); return 5, own }); n != 0 || e != api.ErrFull {
			t.Error(n, e)
		}
		called := false
		if e := within.Errno(x, func() api.Errno { called = true; return own }); e != api.ErrFull || called {
			t.Error(e, called)
		}
	}
}

// Keys are gone through one by one, up to the last one that there may be.
func TestKeys(t *testing.T) {
	x := begin(t)
	want := []uint64{0, 5, 1<<64 - 1}
	for _, key := range want {
		x.Put(key, "v")
	}
	var got []uint64
	for key := range within.Keys(x, 0) {
		got = append(got, key)
	}
	if !slices.Equal(got, want) {
		t.Error(got)
	}
	for key := range within.Keys(x, 1) {
		if key != 5 {
			t.Error(key)
		}
		break
	}
}

// Numbers are those of one kind and one first number.
func TestNumbers(t *testing.T) {
	x := begin(t)
	for _, p := range [][3]int{{2, 7, 1}, {2, 7, 1<<32 - 1}, {2, 7, 9}, {2, 6, 5}, {2, 8, 0}, {3, 7, 2}} {
		key, _ := space.Key(p[0], p[1], p[2])
		x.Put(key, "")
	}
	for from, want := range map[int][]int{0: {1, 9, 1<<32 - 1}, 2: {9, 1<<32 - 1}, 1<<32 - 1: {1<<32 - 1}, 1 << 32: nil, -1: nil} {
		var got []int
		for n := range within.Numbers(x, 2, 7, from) {
			got = append(got, n)
		}
		if !slices.Equal(got, want) {
			t.Error(from, got)
		}
	}
}
