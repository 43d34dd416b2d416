package label_test

import (
	"slices"
	"strings"
	"testing"

	"bailiwick/label"
)

// P2.1: how many runes; a byte that begins none is one.
func TestRunes(t *testing.T) {
	for s, want := range map[string]int{"": 0, "abc": 3, "é": 1, "\xff\xfe": 2, "a\xc3": 2, "\u20ac.": 2, "\xe2\x82": 2} {
		if n := label.Runes(s); n != want {
			t.Errorf("Runes(%q) = %d", s, n)
		}
	}
}

// P2.1: which labels are right.
func TestRight(t *testing.T) {
	right := []string{
		"a", "z", "A", "Z", "0", "9", "Alice.Smith", "a-b", "a--b", "a.b.c", "a-.-b", "À", "ſ", "\u00d7", "\u00f7", "\u00c0", "\u017f",
		strings.Repeat("a", 16), strings.Repeat("é", 16),
	}
	wrong := []string{
		"", ".", "-", "-a", "a-", ".a", "a.", "a..b", "a_b", "a b", "a/b", "a@", "`", "{", "[", ":", "/",
		"\u00bf", "\u0180", "\ufffd", "\xff", "a\xc3", "a\x00b", "\u20ac", "*", "**",
		strings.Repeat("a", 17), strings.Repeat("é", 17), strings.Repeat("a", 40),
	}
	for _, s := range right {
		if !label.Right(s) {
			t.Errorf("Right(%q): no", s)
		}
	}
	for _, s := range wrong {
		if label.Right(s) {
			t.Errorf("Right(%q): yes", s)
		}
		if got, ok := label.Fold(s); got != "" || ok {
			t.Errorf("Fold(%q) = %q, %v", s, got, ok)
		}
	}
}

// P2.1: just the letters A to Z are folded.
func TestFold(t *testing.T) {
	for s, want := range map[string]string{"Alice.Smith": "alice.smith", "ÀZ": "Àz", "a-0.Z9": "a-0.z9", "AZ": "az", "é": "é"} {
		if got, ok := label.Fold(s); got != want || !ok {
			t.Errorf("Fold(%q) = %q, %v", s, got, ok)
		}
	}
}

// P2.2: the parts between the dots.
func TestParts(t *testing.T) {
	for _, c := range []struct {
		s    string
		want []string
	}{
		{"", []string{""}}, {"a", []string{"a"}}, {"a.b", []string{"a", "b"}}, {".", []string{"", ""}},
		{"..a", []string{"", "", "a"}}, {"a.", []string{"a", ""}}, {"\xff.\xfe", []string{"\xff", "\xfe"}},
	} {
		if got := label.Parts(c.s); !slices.Equal(got, c.want) {
			t.Errorf("Parts(%q) = %q", c.s, got)
		}
	}
}

// P2.2: patterns.
func TestMatch(t *testing.T) {
	for _, c := range []struct {
		pattern, s string
		want       bool
	}{
		{"a.*", "a.b", true}, {"a.*", "a", false}, {"a.*", "a.b.c", false}, {"a.*", "a.", true}, {"*.b", "a.b", true},
		{"a.**", "a", false}, {"a.**", "a.b", true}, {"a.**", "a.b.c", true}, {"a.**", "b.c", false}, {"a.**", "a.", true},
		{"**", "", true}, {"**", "a.b.c", true}, {"*", "", true}, {"*", "a", true}, {"*", "a.b", false},
		{"", "", true}, {"", "a", false}, {"a", "A", false}, {"**.a", "b.a", false}, {"**.a", "**.a", true},
		{"a", "*", false}, {"*.**", "a", false}, {"*.**", "a.b", true}, {"a*", "ab", false}, {"a.b", "a.b", true},
		{"a.**.**", "a.**.x", true}, {"a.**.**", "a.b.x", false},
	} {
		if got := label.Match(c.pattern, c.s); got != c.want {
			t.Errorf("Match(%q, %q) = %v", c.pattern, c.s, got)
		}
	}
}

// P2.3: what is folded is right and stays; the parts together are the text.
func TestFollows(t *testing.T) {
	for _, s := range []string{"Alice.Smith", "A", "Éa.Ž-9", "", "..", "a.b..c", "\xff.a"} {
		if got := strings.Join(label.Parts(s), "."); got != s {
			t.Errorf("parts of %q: %q", s, got)
		}
		if f, ok := label.Fold(s); ok {
			if g, again := label.Fold(f); !label.Right(f) || g != f || !again {
				t.Errorf("%q: %q, %q", s, f, g)
			}
		}
	}
}
