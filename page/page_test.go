package page_test

import (
	"hash/adler32"
	"strings"
	"testing"

	"bailiwick/api"
	"bailiwick/disk"
	"bailiwick/page"
)

// P7.1: Adler's sum.
func TestSum(t *testing.T) {
	if got := page.Sum("Wikipedia"); got != 0x11e60398 {
		t.Errorf("%x", got)
	}
	for _, s := range []string{"", "\x00", strings.Repeat("\xff", 100000), strings.Repeat("ab\x00", 777)} {
		if got, want := page.Sum(s), adler32.Checksum([]byte(s)); got != want {
			t.Errorf("%d bytes: %x, not %x", len(s), got, want)
		}
	}
}

func withSum(b string) string {
	s := page.Sum(b)
	return b + string([]byte{byte(s >> 24), byte(s >> 16), byte(s >> 8), byte(s)})
}

// P7.1: a sealed page, byte by byte.
func TestSeal(t *testing.T) {
	want := withSum("\x02\x03abc" + strings.Repeat("\x00", 247))
	if got, e := page.Seal(2, "abc"); got != want || e != api.OK {
		t.Errorf("%x %d", got, e)
	}
	long := strings.Repeat("x", 240)
	want = withSum("\x0f\xf0" + long + strings.Repeat("\x00", 10))
	if got, e := page.Seal(15, long); got != want || e != api.OK {
		t.Errorf("%x %d", got, e)
	}
	for _, kind := range []int{0, -1, 16, 256 + 1, 1 << 62} {
		if got, e := page.Seal(kind, "a"); got != "" || e != api.ErrArg {
			t.Errorf("kind %d: %d", kind, e)
		}
	}
	if got, e := page.Seal(1, long+"x"); got != "" || e != api.ErrArg {
		t.Error(e)
	}
}

// P7.1: what is no page is told, the sum ahead of the form.
func TestOpen(t *testing.T) {
	zero := func(n int) string { return strings.Repeat("\x00", n) }
	good, _ := page.Seal(3, "text")
	for _, c := range []struct {
		name, b string
		e       api.Errno
	}{
		{"nothing", "", api.ErrForm},
		{"short", good[1:], api.ErrForm},
		{"long", good + "\x00", api.ErrForm},
		{"zeros", zero(256), api.ErrSum},
		{"another sum", good[:255] + "\xee", api.ErrSum},
		{"kind 0", withSum("\x00\x01a" + zero(249)), api.ErrForm},
		{"kind 16", withSum("\x10\x01a" + zero(249)), api.ErrForm},
		{"a text of 241", withSum("\x01\xf1" + zero(250)), api.ErrForm},
		{"a text of 255", withSum("\x01\xff" + zero(250)), api.ErrForm},
		{"bytes behind", withSum("\x01\x01ab" + zero(248)), api.ErrForm},
		{"a byte at the end", withSum("\x01\x01a" + zero(248) + "\x01"), api.ErrForm},
	} {
		if kind, text, e := page.Open(c.b); kind != 0 || text != "" || e != c.e {
			t.Errorf("%s: %d %q %d", c.name, kind, text, e)
		}
	}
}

// P7.2: pages on a disk; what Seal refuses is told ahead of the disk.
func TestDisk(t *testing.T) {
	d, _ := disk.New(8)
	if e := page.Write(d, 4, 7, "here"); e != api.OK {
		t.Error(e)
	}
	if kind, text, e := page.Read(d, 4); kind != 7 || text != "here" || e != api.OK {
		t.Error(kind, text, e)
	}
	if _, _, e := page.Read(d, 5); e != api.ErrSum {
		t.Error(e)
	}
	if _, _, e := page.Read(d, 8); e != api.ErrArg {
		t.Error(e)
	}
	if e := page.Write(d, -1, 7, ""); e != api.ErrArg {
		t.Error(e)
	}
	if e := page.Write(d, 4, 0, ""); e != api.ErrArg {
		t.Error(e)
	}
	d.Fuse(0)
	if e := page.Write(d, 4, 16, ""); e != api.ErrArg || !d.Up() {
		t.Error(e)
	}
	if e := page.Write(d, 4, 1, ""); e != api.ErrDown {
		t.Error(e)
	}
	if e := page.Write(d, 4, 16, ""); e != api.ErrArg {
		t.Error(e)
	}
	if kind, text, e := page.Read(d, 4); kind != 0 || text != "" || e != api.ErrDown {
		t.Error(kind, text, e)
	}
}

// P7.3: what was sealed is opened as it was; one byte changed makes it none.
func TestRound(t *testing.T) {
	for kind := 1; kind <= 15; kind++ {
		for size := 0; size <= api.MaxText; size++ {
			text := strings.Repeat("\x00z\xff", 80)[:size]
			b, _ := page.Seal(kind, text)
			if k, got, e := page.Open(b); k != kind || got != text || e != api.OK {
				t.Fatal(kind, size, e)
			}
		}
	}
	b, _ := page.Seal(9, "a text\x00")
	for i := range len(b) {
		for x := 1; x < 256; x++ {
			broken := []byte(b)
			broken[i] ^= byte(x)
			if _, _, e := page.Open(string(broken)); e != api.ErrSum {
				t.Fatal(i, x, e)
			}
		}
	}
}
