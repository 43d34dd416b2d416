package num_test

import (
	"strings"
	"testing"

	"bailiwick/api"
	"bailiwick/num"
)

// P1.1: numbers are written with the greatest byte first, and what can't be is refused.
func TestPut(t *testing.T) {
	for _, c := range []struct {
		n    uint64
		size int
		want string
		e    api.Errno
	}{
		{258, 2, "\x01\x02", api.OK},
		{258, 8, "\x00\x00\x00\x00\x00\x00\x01\x02", api.OK},
		{0, 1, "\x00", api.OK},
		{255, 1, "\xff", api.OK},
		{256, 1, "", api.ErrArg},
		{1<<24 - 1, 3, "\xff\xff\xff", api.OK},
		{1 << 24, 3, "", api.ErrArg},
		{1 << 56, 7, "", api.ErrArg},
		{1 << 56, 8, "\x01\x00\x00\x00\x00\x00\x00\x00", api.OK},
		{1<<64 - 1, 8, "\xff\xff\xff\xff\xff\xff\xff\xff", api.OK},
		{0, 0, "", api.ErrArg},
		{0, 9, "", api.ErrArg},
		{0, -1, "", api.ErrArg},
		{0, -1 << 63, "", api.ErrArg},
		{0, 1<<63 - 1, "", api.ErrArg},
	} {
		if s, e := num.Put(c.n, c.size); s != c.want || e != c.e {
			t.Errorf("Put(%d, %d) = %x, %d", c.n, c.size, s, e)
		}
	}
}

// P1.1: numbers are read, and the rest is told.
func TestTake(t *testing.T) {
	for _, c := range []struct {
		b    string
		size int
		n    uint64
		rest string
		e    api.Errno
	}{
		{"\x01\x02z", 2, 258, "z", api.OK},
		{"\x01\x02", 2, 258, "", api.OK},
		{"\x01", 2, 0, "", api.ErrForm},
		{"", 1, 0, "", api.ErrForm},
		{"", 0, 0, "", api.ErrArg},
		{"abcdefghij", 9, 0, "", api.ErrArg},
		{"ab", -1, 0, "", api.ErrArg},
		{"\xff\xff\xff\xff\xff\xff\xff\xffab", 8, 1<<64 - 1, "ab", api.OK},
	} {
		if n, rest, e := num.Take(c.b, c.size); n != c.n || rest != c.rest || e != c.e {
			t.Errorf("Take(%x, %d) = %d, %x, %d", c.b, c.size, n, rest, e)
		}
	}
}

// P1.2: texts are written and read with their lengths.
func TestText(t *testing.T) {
	if s, e := num.Text("ab"); s != "\x02ab" || e != api.OK {
		t.Error(s, e)
	}
	if s, e := num.Text(""); s != "\x00" || e != api.OK {
		t.Error(s, e)
	}
	long := strings.Repeat("x", 255)
	if s, e := num.Text(long); s != "\xff"+long || e != api.OK {
		t.Error(len(s), e)
	}
	if s, e := num.Text(long + "x"); s != "" || e != api.ErrLong {
		t.Error(s, e)
	}
	if s, rest, e := num.TakeText("\x02abc"); s != "ab" || rest != "c" || e != api.OK {
		t.Error(s, rest, e)
	}
	if s, rest, e := num.TakeText("\x00"); s != "" || rest != "" || e != api.OK {
		t.Error(s, rest, e)
	}
	for _, b := range []string{"", "\x01", "\x03ab", "\xff" + long[1:]} {
		if s, rest, e := num.TakeText(b); s != "" || rest != "" || e != api.ErrForm {
			t.Errorf("%x: %q %q %d", b, s, rest, e)
		}
	}
}

// P1.3: what was written is read as it was.
func TestRound(t *testing.T) {
	for size := 1; size <= 8; size++ {
		for n := uint64(1); n != 0; n *= 3 {
			s, e := num.Put(n, size)
			if e != api.OK {
				break
			}
			if m, rest, e := num.Take(s+"!", size); m != n || rest != "!" || e != api.OK {
				t.Fatal(n, size, m, rest, e)
			}
			if n > 1<<62 {
				break
			}
		}
	}
	for n := range 256 {
		text := strings.Repeat("\xfe", n)
		s, _ := num.Text(text)
		if got, rest, e := num.TakeText(s + "rest"); got != text || rest != "rest" || e != api.OK {
			t.Fatal(n, e)
		}
	}
}
