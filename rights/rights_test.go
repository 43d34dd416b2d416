package rights_test

import (
	"testing"

	"bailiwick/rights"
)

var noMasks = []int{-1, 65536, 1 << 62, -1 << 63, 65536 + 5}

// P5.1: masks as letters.
func TestText(t *testing.T) {
	for mask, want := range map[int]string{0: "", 1: "a", 5: "ac", 32768: "p", 65535: "abcdefghijklmnop"} {
		if s, ok := rights.Text(mask); s != want || !ok {
			t.Errorf("Text(%d) = %q, %v", mask, s, ok)
		}
	}
	for _, n := range noMasks {
		if s, ok := rights.Text(n); s != "" || ok {
			t.Errorf("Text(%d) = %q, %v", n, s, ok)
		}
	}
}

// P5.1: letters as masks, in whatever order, each one once.
func TestParse(t *testing.T) {
	for s, want := range map[string]int{"": 0, "ca": 5, "ac": 5, "p": 32768, "ponmlkjihgfedcba": 65535} {
		if mask, ok := rights.Parse(s); mask != want || !ok {
			t.Errorf("Parse(%q) = %d, %v", s, mask, ok)
		}
	}
	for _, s := range []string{"aa", "aba", "q", "A", "a b", "\xff", "`", "aé", "a\x00", "\ufffd"} {
		if mask, ok := rights.Parse(s); mask != 0 || ok {
			t.Errorf("Parse(%q) = %d, %v", s, mask, ok)
		}
	}
}

// P5.2: sets against each other.
func TestSets(t *testing.T) {
	for _, c := range []struct {
		a, b, cut int
		sub       bool
	}{
		{0, 0, 0, true}, {5, 7, 5, true}, {7, 5, 5, false}, {0, 65535, 0, true}, {65535, 65535, 65535, true}, {8, 7, 0, false},
	} {
		if got := rights.Sub(c.a, c.b); got != c.sub {
			t.Errorf("Sub(%d, %d) = %v", c.a, c.b, got)
		}
		if got := rights.Cut(c.a, c.b); got != c.cut {
			t.Errorf("Cut(%d, %d) = %d", c.a, c.b, got)
		}
	}
	for _, n := range noMasks {
		if rights.Sub(n, 65535) || rights.Sub(0, n) || rights.Sub(n, n) {
			t.Errorf("Sub of %d", n)
		}
		if rights.Cut(n, 65535) != 0 || rights.Cut(65535, n) != 0 || rights.Count(n) != 0 {
			t.Errorf("Cut or Count of %d", n)
		}
	}
	for mask, want := range map[int]int{0: 0, 5: 2, 65535: 16, 32768: 1} {
		if got := rights.Count(mask); got != want {
			t.Errorf("Count(%d) = %d", mask, got)
		}
	}
}

// P5.3: there and back, for all masks.
func TestRound(t *testing.T) {
	for mask := range 65536 {
		s, _ := rights.Text(mask)
		if got, ok := rights.Parse(s); got != mask || !ok || rights.Count(mask) != len(s) {
			t.Fatal(mask, s, got, ok)
		}
	}
}
