package space_test

import (
	"testing"

	"bailiwick/api"
	"bailiwick/space"
)

const lastB = 1<<32 - 1

// The kinds have their numbers.
func TestKinds(t *testing.T) {
	for i, kind := range []int{space.Cap, space.Kid, space.Owner, space.Slot, space.Lease, space.Intent, space.Stack, space.Reply, space.Meta} {
		if kind != i+1 {
			t.Error(i, kind)
		}
	}
}

// P13.1: keys of parts, and parts that may not be.
func TestKey(t *testing.T) {
	for _, c := range []struct {
		kind, a, b int
		want       uint64
		ok         bool
	}{
		{1, 0, 5, 0x1000000000000005, true},
		{0, 0, 0, 0, true},
		{15, api.MaxClock, lastB, 1<<64 - 1, true},
		{2, 3, 4, 0x2000000300000004, true},
		{9, 0, lastB, 0x90000000ffffffff, true},
		{16, 0, 0, 0, false}, {-1, 0, 0, 0, false}, {1, -1, 0, 0, false}, {1, api.MaxClock + 1, 0, 0, false},
		{1, 0, -1, 0, false}, {1, 0, lastB + 1, 0, false}, {-1 << 63, 0, 0, 0, false}, {1, -1 << 63, 0, 0, false}, {1, 0, -1 << 63, 0, false},
		{1<<63 - 1, 0, 0, 0, false}, {1, 1<<63 - 1, 0, 0, false}, {1, 0, 1<<63 - 1, 0, false},
	} {
		if got, ok := space.Key(c.kind, c.a, c.b); got != c.want || ok != c.ok {
			t.Errorf("Key(%d, %d, %d) = %x, %v", c.kind, c.a, c.b, got, ok)
		}
	}
}

// P13.1: the next key, the first one of a kind, and which keys are of a kind and an a.
func TestAround(t *testing.T) {
	for key, want := range map[uint64]uint64{0: 1, 0x1fffffffffffffff: 0x2000000000000000, 1<<64 - 2: 1<<64 - 1} {
		if got, ok := space.Next(key); got != want || !ok {
			t.Errorf("Next(%x) = %x, %v", key, got, ok)
		}
	}
	if got, ok := space.Next(1<<64 - 1); got != 0 || ok {
		t.Error(got, ok)
	}
	for kind, want := range map[int]uint64{0: 0, 1: 1 << 60, 9: 9 << 60, 15: 15 << 60, 16: 0, -1: 0, 1 << 62: 0} {
		if got := space.First(kind); got != want {
			t.Errorf("First(%d) = %x", kind, got)
		}
	}
	key, _ := space.Key(2, 7, 9)
	for _, c := range []struct {
		kind, a int
		want    bool
	}{{2, 7, true}, {2, 8, false}, {3, 7, false}, {2 + 16, 7, false}, {2, 7 + api.MaxClock + 1, false}, {-14, 7, false}, {2, 7 - api.MaxClock - 1, false}} {
		if got := space.In(key, c.kind, c.a); got != c.want {
			t.Errorf("In(%d, %d) = %v", c.kind, c.a, got)
		}
	}
}

// P13.2: the parts are read as they were, and keys stand as their parts do.
func TestRound(t *testing.T) {
	last := uint64(0)
	for _, kind := range []int{0, 1, 9, 15} {
		for _, a := range []int{0, 1, 1000, api.MaxClock} {
			for _, b := range []int{0, 1, api.MaxID, lastB} {
				key, ok := space.Key(kind, a, b)
				if k, x, y := space.Split(key); !ok || k != kind || x != a || y != b || !space.In(key, kind, a) {
					t.Fatal(kind, a, b)
				}
				if key <= last && key != 0 {
					t.Fatal("out of order", kind, a, b)
				}
				last = key
			}
		}
	}
}
