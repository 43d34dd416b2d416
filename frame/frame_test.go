package frame_test

import (
	"math/rand"
	"slices"
	"strings"
	"testing"

	"bailiwick/api"
	"bailiwick/frame"
)

func next(t *testing.T, r *frame.Reader, want string, is bool, e api.Errno) {
	t.Helper()
	if text, ok, got := r.Next(); text != want || ok != is || got != e {
		t.Errorf("Next() = %q, %v, %d", text, ok, got)
	}
}

func add(t *testing.T, r *frame.Reader, b string, rest int) {
	t.Helper()
	if e := r.Add(b); e != api.OK || r.Rest() != rest {
		t.Errorf("Add(%q): %d, rest %d", b, e, r.Rest())
	}
}

// P20.1: frames of texts.
func TestPut(t *testing.T) {
	long := strings.Repeat("x", 200)
	for text, want := range map[string]string{"": "\x00\x00", "ab": "\x00\x02ab", long: "\x00\xc8" + long} {
		if got, e := frame.Put(text); got != want || e != api.OK {
			t.Errorf("Put(%q) = %q, %d", text, got, e)
		}
	}
	if got, e := frame.Put(long + "x"); got != "" || e != api.ErrLong {
		t.Error(got, e)
	}
}

// P20.2: texts are told when they are whole.
func TestReader(t *testing.T) {
	r := frame.New()
	next(t, r, "", false, api.OK)
	add(t, r, "", 0)
	add(t, r, "\x00", 1)
	next(t, r, "", false, api.OK)
	add(t, r, "\x02", 2)
	next(t, r, "", false, api.OK)
	add(t, r, "a", 3)
	next(t, r, "", false, api.OK)
	if r.Rest() != 3 {
		t.Error(r.Rest())
	}
	add(t, r, "b\x00\x00\x00\x01z\x00", 10)
	next(t, r, "ab", true, api.OK)
	next(t, r, "", true, api.OK)
	next(t, r, "z", true, api.OK)
	next(t, r, "", false, api.OK)
	if r.Rest() != 1 || r.Bad() {
		t.Error(r.Rest(), r.Bad())
	}
	long := strings.Repeat("y", 200)
	add(t, r, "\xc8"+long, 202)
	next(t, r, long, true, api.OK)
	if r.Rest() != 0 {
		t.Error(r.Rest())
	}
}

// P20.2: a text that is too long ends all.
func TestBad(t *testing.T) {
	for _, head := range []string{"\x00\xc9", "\x01\x00", "\xff\xff"} {
		r := frame.New()
		add(t, r, "\x00\x01a"+head+"more", 9)
		next(t, r, "a", true, api.OK)
		if r.Bad() {
			t.Error("bad too early")
		}
		next(t, r, "", false, api.ErrLong)
		if !r.Bad() || r.Rest() != 0 {
			t.Error(r.Bad(), r.Rest())
		}
		next(t, r, "", false, api.ErrState)
		if e := r.Add("\x00\x01a"); e != api.ErrState || r.Rest() != 0 {
			t.Error(e, r.Rest())
		}
		next(t, r, "", false, api.ErrState)
	}
	r := frame.New()
	add(t, r, "\xff", 1)
	next(t, r, "", false, api.OK)
}

// P20.3: however a stream is cut, the same texts are told.
func TestPieces(t *testing.T) {
	r := rand.New(rand.NewSource(20))
	for range 200 {
		var want []string
		stream := ""
		for range r.Intn(20) {
			text := strings.Repeat(string(rune('a'+r.Intn(26))), r.Intn(201))
			f, _ := frame.Put(text)
			want = append(want, text)
			stream += f
		}
		rd := frame.New()
		var got []string
		for stream != "" {
			n := 1 + r.Intn(len(stream))
			if r.Intn(2) == 0 {
				n = 1 + r.Intn(min(len(stream), 5))
			}
			rd.Add(stream[:n])
			stream = stream[n:]
			for r.Intn(4) > 0 {
				text, ok, _ := rd.Next()
				if !ok {
					break
				}
				got = append(got, text)
			}
		}
		for text, ok, _ := rd.Next(); ok; text, ok, _ = rd.Next() {
			got = append(got, text)
		}
		if !slices.Equal(got, want) || rd.Rest() != 0 {
			t.Fatal(got, want)
		}
	}
}
