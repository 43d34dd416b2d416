package mac_test

import (
	"crypto/hmac"
	"crypto/sha256"
	"strings"
	"testing"

	"bailiwick/mac"
	"bailiwick/sha"
)

// P4.1: macs that are known, and each length of key around 64 bytes.
func TestMac(t *testing.T) {
	got := sha.Hex(mac.Mac("key", "The quick brown fox jumps over the lazy dog"))
	if got != "f7bc83f430538424b13298e6aa6fb143ef4d59a14946175997479dbc2d1a3cd8" {
		t.Error(got)
	}
	for n := range 140 {
		key, text := strings.Repeat("k\xf0", n)[:n], strings.Repeat("text\x00", n)
		m := hmac.New(sha256.New, []byte(key))
		m.Write([]byte(text))
		want := string(m.Sum(nil))
		if got := mac.Mac(key, text); got != want {
			t.Fatalf("key of %d bytes: %x", n, got)
		}
		if got := mac.Tag(key, text); got != want[:16] {
			t.Fatalf("tag, key of %d bytes: %x", n, got)
		}
	}
}

// P4.2: same bytes, and as many.
func TestSame(t *testing.T) {
	for _, c := range []struct {
		a, b string
		want bool
	}{
		{"", "", true}, {"a", "a", true}, {"a", "b", false}, {"ab", "a", false}, {"a", "ab", false}, {"a", "a\x00", false},
		{"\x00", "", false}, {"", "\x00\x00", false}, {"xbc", "abc", false}, {"abx", "abc", false}, {"\x01\x02", "\x02\x01", false},
		{"\xff\xff", "\xff\xff", true},
	} {
		if got := mac.Same(c.a, c.b); got != c.want {
			t.Errorf("Same(%q, %q) = %v", c.a, c.b, got)
		}
	}
}

// P4.3: bytes 0 behind a key, up to 64, make no other one; beyond they do.
func TestKeyEnd(t *testing.T) {
	key := "a key"
	for n := range 60 {
		if mac.Mac(key, "s") != mac.Mac(key+strings.Repeat("\x00", n), "s") {
			t.Fatal(n)
		}
	}
	if mac.Mac(key, "s") == mac.Mac(key+strings.Repeat("\x00", 60), "s") {
		t.Error("a key of 65 bytes")
	}
}
