package sha_test

import (
	"crypto/sha256"
	"encoding/hex"
	"strings"
	"testing"

	"bailiwick/sha"
)

// P3.1, P3.3: sums that are known.
func TestKnown(t *testing.T) {
	for s, want := range map[string]string{
		"":    "e3b0c44298fc1c149afbf4c8996fb92427ae41e4649b934ca495991b7852b855",
		"abc": "ba7816bf8f01cfea414140de5dae2223b00361a396177a9cb410ff61f20015ad",
		"abcdbcdecdefdefgefghfghighijhijkijkljklmklmnlmnomnopnopq": "248d6a61d20638b8e5c026930c3e6039a33ce45964ff2167f6ecedd419db06c1",
	} {
		if got := sha.Hex(sha.Sum(s)); got != want {
			t.Errorf("%q: %s", s, got)
		}
	}
}

// P3.1: each length around the blocks' ends.
func TestLengths(t *testing.T) {
	text := strings.Repeat("\x00\xffbailiwick\x80", 90)
	for n := range 300 {
		want := sha256.Sum256([]byte(text[n : 2*n]))
		if got := sha.Sum(text[n : 2*n]); got != string(want[:]) {
			t.Fatalf("%d bytes: %x", n, got)
		}
	}
	long := strings.Repeat("a", 1000000)
	if got := sha.Hex(sha.Sum(long)); got != "cdc76e5c9914fb9281a1c7e284d73e67f1809a48a497200e046d39ccc7112cd0" {
		t.Error(got)
	}
}

// P3.2: two digits for each byte.
func TestHex(t *testing.T) {
	var all []byte
	for i := range 256 {
		all = append(all, byte(i))
	}
	if got, want := sha.Hex(string(all)), hex.EncodeToString(all); got != want {
		t.Error(got)
	}
	if got := sha.Hex(""); got != "" {
		t.Error(got)
	}
}
