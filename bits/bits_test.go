package bits_test

import (
	"strings"
	"testing"

	"bailiwick/bits"
)

const far = 1<<63 - 1

// P8.1: the room of a new set.
func TestNew(t *testing.T) {
	for n, want := range map[int]int{0: 0, 1: 1, 8: 1, 9: 2, 640: 80, -1: 0, -1 << 63: 0, 99999: 12500, 100000: 12500, 100001: 12500, far: 12500} {
		if got := bits.New(n); got != strings.Repeat("\x00", want) {
			t.Errorf("New(%d) has %d bytes", n, len(got))
		}
	}
}

// P8.1: which numbers are in a set.
func TestHas(t *testing.T) {
	b := "\x01\x80"
	for i := -20; i < 40; i++ {
		if got := bits.Has(b, i); got != (i == 0 || i == 15) {
			t.Errorf("Has(%d) = %v", i, got)
		}
	}
	for _, i := range []int{-1 << 63, far, 1 << 62} {
		if bits.Has(b, i) {
			t.Errorf("Has(%d)", i)
		}
	}
}

// P8.1, P8.3: numbers in and out, and nothing else.
func TestWith(t *testing.T) {
	if got := bits.With(bits.New(9), 8, true); got != "\x00\x01" {
		t.Errorf("%x", got)
	}
	for _, b := range []string{"\x00\x00\x00", "\xff\xff\xff", "\x5a\x0f\xf0"} {
		for i := range 24 {
			for _, on := range []bool{true, false} {
				got := bits.With(b, i, on)
				for j := range 24 {
					want := bits.Has(b, j)
					if j == i {
						want = on
					}
					if bits.Has(got, j) != want || len(got) != 3 {
						t.Fatalf("With(%x, %d, %v) = %x", b, i, on, got)
					}
				}
			}
		}
		for _, i := range []int{-1, 24, -1 << 63, far} {
			if got := bits.With(b, i, true); got != b {
				t.Errorf("With(%x, %d) = %x", b, i, got)
			}
		}
	}
}

// P8.2: the least number that is not in a set.
func TestFirst(t *testing.T) {
	for _, c := range []struct {
		b    string
		n    int
		want int
		ok   bool
	}{
		{"\x00", 8, 0, true}, {"\x07", 8, 3, true}, {"\x07", 3, 0, false}, {"\x07", 4, 3, true}, {"\xff", 100, 0, false},
		{"\xff\x01", far, 9, true}, {"", 5, 0, false}, {"\x00", 0, 0, false}, {"\x00", -1, 0, false}, {"\x00", -1 << 63, 0, false},
		{"\x02", 8, 0, true}, {"\xff\xff", 16, 0, false},
	} {
		if got, ok := bits.First(c.b, c.n); got != c.want || ok != c.ok {
			t.Errorf("First(%x, %d) = %d, %v", c.b, c.n, got, ok)
		}
	}
}

// P8.2: how many, and two sets together; as long as the first one.
func TestSets(t *testing.T) {
	for b, want := range map[string]int{"": 0, "\x00": 0, "\xff\x01": 9, "\x80\x80": 2} {
		if got := bits.Count(b); got != want {
			t.Errorf("Count(%x) = %d", b, got)
		}
	}
	for _, c := range []struct{ a, b, join, less string }{
		{"\x05", "\x03", "\x07", "\x04"},
		{"\x05", "\x03\xff", "\x07", "\x04"},
		{"\x05\xf0", "\x03", "\x07\xf0", "\x04\xf0"},
		{"", "\xff", "", ""},
		{"\xff", "", "\xff", "\xff"},
	} {
		if got := bits.Join(c.a, c.b); got != c.join {
			t.Errorf("Join(%x, %x) = %x", c.a, c.b, got)
		}
		if got := bits.Less(c.a, c.b); got != c.less {
			t.Errorf("Less(%x, %x) = %x", c.a, c.b, got)
		}
	}
}
