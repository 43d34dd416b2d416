package lease_test

import (
	"slices"
	"strings"
	"testing"

	"bailiwick/api"
	"bailiwick/capt"
	"bailiwick/disk"
	"bailiwick/lease"
	"bailiwick/shadow"
	"bailiwick/space"
	"bailiwick/txn"
)

const far = 1<<63 - 1

func begin(t *testing.T, sectors int) *txn.Txn {
	t.Helper()
	d, _ := disk.New(sectors)
	s, e := shadow.Format(d)
	if e != api.OK {
		t.Fatal(e)
	}
	return txn.Begin(s)
}

func put(t *testing.T, x *txn.Txn, kind, a, b int, value string) {
	t.Helper()
	key, ok := space.Key(kind, a, b)
	if !ok || !x.Put(key, value) {
		t.Fatal(kind, a, b, x.Err())
	}
}

func leases(x *txn.Txn) [][2]int {
	var list [][2]int
	for _, entry := range x.Scan(space.First(space.Lease), 1000) {
		if kind, end, id := space.Split(entry.Key); kind == space.Lease {
			list = append(list, [2]int{end, id})
		}
	}
	return list
}

func unchanged(t *testing.T, x *txn.Txn, want api.Errno, do func() api.Errno) {
	t.Helper()
	was := x.Scan(0, 1000)
	if e := do(); e != want {
		t.Errorf("error %d, not %d", e, want)
	}
	if !slices.Equal(was, x.Scan(0, 1000)) {
		t.Error("changed by an error")
	}
}

// P16.1: the clock goes on, up to its end.
func TestClock(t *testing.T) {
	x := begin(t, 20)
	clock := func(want int) {
		t.Helper()
		if now, e := lease.Clock(x); now != want || e != api.OK {
			t.Error(now, e)
		}
	}
	tick := func(n int) func() api.Errno {
		return func() api.Errno {
			now, e := lease.Tick(x, n)
			if e != api.OK && now != 0 {
				t.Error(now)
			}
			return e
		}
	}
	clock(0)
	if now, e := lease.Tick(x, 5); now != 5 || e != api.OK {
		t.Error(now, e)
	}
	clock(5)
	if v, _ := x.Get(9<<60 | 4); v != "\x00\x00\x00\x05" {
		t.Errorf("%x", v)
	}
	unchanged(t, x, api.OK, tick(0))
	unchanged(t, x, api.ErrArg, tick(-1))
	unchanged(t, x, api.ErrArg, tick(-far-1))
	unchanged(t, x, api.ErrClock, tick(api.MaxClock-4))
	unchanged(t, x, api.ErrClock, tick(far))
	if now, e := lease.Tick(x, api.MaxClock-5); now != api.MaxClock || e != api.OK {
		t.Error(now, e)
	}
	clock(api.MaxClock)
	unchanged(t, x, api.OK, tick(0))
	unchanged(t, x, api.ErrClock, tick(1))
}

// P16.1: a clock that is none.
func TestClockForm(t *testing.T) {
	for _, value := range []string{"", "\x00\x00\x05", "\x00\x00\x00\x00\x05", "\x10\x00\x00\x00", "\xff\xff\xff\xff"} {
		x := begin(t, 20)
		put(t, x, space.Meta, 0, 4, value)
		if now, e := lease.Clock(x); now != 0 || e != api.ErrForm {
			t.Errorf("%x: %d, %d", value, now, e)
		}
		unchanged(t, x, api.ErrForm, func() api.Errno { _, e := lease.Tick(x, 1); return e })
		unchanged(t, x, api.ErrArg, func() api.Errno { _, e := lease.Tick(x, -1); return e })
	}
	x := begin(t, 20)
	put(t, x, space.Meta, 0, 4, "\x0f\xff\xff\xff")
	if now, e := lease.Clock(x); now != api.MaxClock || e != api.OK {
		t.Error(now, e)
	}
}

// P16.2: caps get another time to end at.
func TestRenew(t *testing.T) {
	x := begin(t, 40)
	ann, _ := capt.Register(x, "ann", 9)
	one, _ := capt.Mint(x, ann, 3, 7, 0, 50)
	two, _ := capt.Derive(x, one, ann, 7, 0, 0, 0)
	renew := func(id, expiry, now int) func() api.Errno {
		return func() api.Errno { return lease.Renew(x, id, expiry, now) }
	}
	unchanged(t, x, api.ErrNone, renew(99, -1, 0))
	unchanged(t, x, api.ErrNone, renew(0, 5, 0))
	unchanged(t, x, api.ErrExpired, renew(one, -1, 50))
	unchanged(t, x, api.ErrExpired, renew(two, 60, 50))
	unchanged(t, x, api.ErrArg, renew(two, 49, 49))
	unchanged(t, x, api.ErrArg, renew(two, -1, 49))
	unchanged(t, x, api.ErrArg, renew(two, -1, -5))
	unchanged(t, x, api.ErrArg, renew(two, api.MaxClock+1, 0))
	unchanged(t, x, api.ErrArg, renew(two, far, 0))
	for _, c := range []struct {
		id, expiry int
		want       [][2]int
	}{
		{one, 60, [][2]int{{60, one}}}, {two, 50, [][2]int{{50, two}, {60, one}}}, {two, 50, [][2]int{{50, two}, {60, one}}},
		{one, 0, [][2]int{{50, two}}}, {two, api.MaxClock, [][2]int{{api.MaxClock, two}}}, {one, 0, [][2]int{{api.MaxClock, two}}},
	} {
		if e := lease.Renew(x, c.id, c.expiry, 49); e != api.OK {
			t.Error(c, e)
		}
		if got, e := capt.Get(x, c.id); got.Expiry != c.expiry || e != api.OK {
			t.Error(c, got, e)
		}
		if got := leases(x); !slices.Equal(got, c.want) {
			t.Error(c, got)
		}
	}
	if e := lease.Renew(x, one, 1, 0); e != api.OK || !slices.Equal(leases(x), [][2]int{{1, one}, {api.MaxClock, two}}) {
		t.Error(e, leases(x))
	}
	if e := lease.Renew(x, one, 0, 0); e != api.OK || !slices.Equal(leases(x), [][2]int{{api.MaxClock, two}}) {
		t.Error(e, leases(x))
	}
	capt.Revoke(x, one, false)
	unchanged(t, x, api.ErrRevoked, renew(two, -1, 49))
}

// P16.2: what is due, in the order of the keys.
func TestDue(t *testing.T) {
	x := begin(t, 40)
	for _, c := range [][2]int{{30, 2}, {10, 9}, {10, 1}, {0, 5}, {20, 1 << 24}, {api.MaxClock, 4}} {
		put(t, x, space.Lease, c[0], c[1], "")
	}
	put(t, x, space.Intent, 0, 1, "\x00\x00\x01\x01")
	for _, c := range []struct {
		now, most int
		want      []int
	}{
		{29, 9, []int{5, 1, 9, 1 << 24}}, {30, 9, []int{5, 1, 9, 1 << 24, 2}}, {30, 2, []int{5, 1}}, {30, 1, []int{5}}, {9, 9, []int{5}}, {0, 9, []int{5}}, {-1, 9, nil},
		{30, 0, nil}, {30, -1, nil}, {far, far, []int{5, 1, 9, 1 << 24, 2, 4}}, {-far - 1, 9, nil}, {api.MaxClock, 6, []int{5, 1, 9, 1 << 24, 2, 4}},
	} {
		if got, e := lease.Due(x, c.now, c.most); !slices.Equal(got, c.want) || e != api.OK {
			t.Error(c, got, e)
		}
	}
	if got, e := lease.Due(begin(t, 20), 9, 9); len(got) != 0 || e != api.OK {
		t.Error(got, e)
	}
}

// P16.2: a lease is forgotten, the expiry stays.
func TestForget(t *testing.T) {
	x := begin(t, 40)
	ann, _ := capt.Register(x, "ann", 9)
	one, _ := capt.Mint(x, ann, 3, 7, 0, 50)
	two, _ := capt.Mint(x, ann, 3, 7, 0, 0)
	three, _ := capt.Mint(x, ann, 3, 7, 0, 50)
	if e := lease.Forget(x, one); e != api.OK {
		t.Error(e)
	}
	if got, _ := capt.Get(x, one); got.Expiry != 50 {
		t.Error(got)
	}
	if got := leases(x); !slices.Equal(got, [][2]int{{50, three}}) {
		t.Error(got)
	}
	for _, id := range []int{one, two} {
		unchanged(t, x, api.OK, func() api.Errno { return lease.Forget(x, id) })
	}
	unchanged(t, x, api.ErrNone, func() api.Errno { return lease.Forget(x, 99) })
	put(t, x, space.Cap, 0, 9, "bad")
	unchanged(t, x, api.ErrForm, func() api.Errno { return lease.Forget(x, 9) })
}

// P16.3: the clock never goes back; what is due has a time that is over.
func TestFollows(t *testing.T) {
	x := begin(t, 60)
	ann, _ := capt.Register(x, "ann", 100)
	for i := range 40 {
		capt.Mint(x, ann, 3, 7, 0, 1+i*37%90)
	}
	last := 0
	for _, n := range []int{3, -5, 0, 20, far, 41, 9} {
		lease.Tick(x, n)
		now, e := lease.Clock(x)
		if now < last || e != api.OK {
			t.Error(now, last, e)
		}
		last = now
		due, _ := lease.Due(x, now, far)
		for id := 1; id <= 40; id++ {
			if c, _ := capt.Get(x, id); (c.Expiry <= now) != slices.Contains(due, id) {
				t.Error(now, c)
			}
		}
	}
}

// The transaction's error goes ahead of all.
func TestTransactionError(t *testing.T) {
	x := begin(t, 8)
	for n := 0; x.Err() == api.OK; n++ {
		put := uint64(n)
		x.Put(put, strings.Repeat("x", 40))
	}
	for i, call := range []func() api.Errno{
		func() api.Errno { _, e := lease.Clock(x); return e },
		func() api.Errno { _, e := lease.Tick(x, -1); return e },
		func() api.Errno { return lease.Renew(x, 0, 0, 0) },
		func() api.Errno { _, e := lease.Due(x, 0, 0); return e },
		func() api.Errno { return lease.Forget(x, 0) },
	} {
		if e := call(); e != api.ErrFull {
			t.Error(i, e)
		}
	}
}
