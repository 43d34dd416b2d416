package handle_test

import (
	"slices"
	"strings"
	"testing"

	"bailiwick/api"
	"bailiwick/disk"
	"bailiwick/handle"
	"bailiwick/mac"
	"bailiwick/shadow"
	"bailiwick/slot"
	"bailiwick/space"
	"bailiwick/txn"
)

const far = 1<<63 - 1

func begin(t *testing.T, sectors int) *txn.Txn {
	t.Helper()
	d, _ := disk.New(sectors)
	s, e := shadow.Format(d)
	if e != api.OK {
		t.Fatal(e)
	}
	return txn.Begin(s)
}

func put(t *testing.T, x *txn.Txn, kind, b int, value string) {
	t.Helper()
	key, ok := space.Key(kind, 0, b)
	if !ok || !x.Put(key, value) {
		t.Fatal(kind, b, x.Err())
	}
}

func secret(c string) string { return strings.Repeat(c, 32) }

func rotate(t *testing.T, x *txn.Txn, c string, want int) {
	t.Helper()
	if n, e := handle.Rotate(x, secret(c)); n != want || e != api.OK {
		t.Fatal(n, e)
	}
}

func seal(t *testing.T, x *txn.Txn, cap int, draws ...uint64) string {
	t.Helper()
	s, used, e := handle.Seal(x, cap, draws)
	if used != 1 || e != api.OK || len(s) != 29 {
		t.Fatal(used, e)
	}
	return s
}

func opens(t *testing.T, x *txn.Txn, s string, cap int, want api.Errno) {
	t.Helper()
	if got, e := handle.Open(x, s); got != cap || e != want {
		t.Errorf("Open(%x) = %d, %d, not %d, %d", s, got, e, cap, want)
	}
}

var wrong = []api.Handle{
	{}, {Slot: 0, Epoch: 1, KeyNumber: 1}, {Slot: 201, Epoch: 1, KeyNumber: 1}, {Slot: -1, Epoch: 1, KeyNumber: 1},
	{Slot: 1, Epoch: 0, KeyNumber: 1}, {Slot: 1, Epoch: 16, KeyNumber: 1}, {Slot: 1, Epoch: 1, KeyNumber: 0}, {Slot: 1, Epoch: 1, KeyNumber: 65536},
	{Slot: far, Epoch: far, KeyNumber: far}, {Slot: 65536 + 1, Epoch: 1, KeyNumber: 1},
}

// P19.1: handles as bytes.
func TestPutTake(t *testing.T) {
	h := api.Handle{Slot: 200, Epoch: 15, Nonce: 0x0102030405060708, KeyNumber: 65535}
	body := "\x00\xc8\x0f\x01\x02\x03\x04\x05\x06\x07\x08\xff\xff"
	want := body + mac.Tag("key", body)
	if s, e := handle.Put(h, "key"); s != want || e != api.OK {
		t.Errorf("%x %d", s, e)
	}
	if got, tag, e := handle.Take(want); got != h || tag != want[13:] || e != api.OK {
		t.Error(got, tag, e)
	}
	for _, h := range wrong {
		if s, e := handle.Put(h, "key"); s != "" || e != api.ErrArg {
			t.Error(h, e)
		}
		if handle.Check(h, strings.Repeat("\x00", 16), "key") {
			t.Error(h)
		}
	}
	for _, s := range []string{
		"", want[1:], want + "x", "\x00\x00" + want[2:], "\x00\xc9" + want[2:], "\x01\x01" + want[2:], want[:2] + "\x00" + want[3:], want[:2] + "\x10" + want[3:],
		want[:11] + "\x00\x00" + want[13:],
	} {
		if h, tag, e := handle.Take(s); h != (api.Handle{}) || tag != "" || e != api.ErrForm {
			t.Errorf("Take(%x): %v %x %d", s, h, tag, e)
		}
	}
}

// P19.1: just the right tag is right.
func TestCheck(t *testing.T) {
	h := api.Handle{Slot: 1, Epoch: 1, Nonce: 5, KeyNumber: 1}
	s, _ := handle.Put(h, "key")
	tag := s[13:]
	if !handle.Check(h, tag, "key") {
		t.Error("the tag is not right")
	}
	other := h
	other.Nonce = 6
	if handle.Check(h, tag, "kez") || handle.Check(other, tag, "key") || handle.Check(h, tag[:15], "key") || handle.Check(h, tag+"\x00", "key") || handle.Check(h, "", "key") {
		t.Error("a wrong tag is right")
	}
	for i := range tag {
		broken := []byte(tag)
		broken[i] ^= 1
		if handle.Check(h, string(broken), "key") {
			t.Error(i)
		}
	}
}

func hasKeys(t *testing.T, x *txn.Txn, number int, now, last string, want api.Errno) {
	t.Helper()
	if n, a, b, e := handle.Keys(x); n != number || a != now || b != last || e != want {
		t.Errorf("Keys() = %d, %q, %q, %d", n, a, b, e)
	}
}

// P19.2: keys come one behind the other.
func TestKeys(t *testing.T) {
	x := begin(t, 40)
	hasKeys(t, x, 0, "", "", api.OK)
	rotate(t, x, "a", 1)
	hasKeys(t, x, 1, secret("a"), "", api.OK)
	rotate(t, x, "b", 2)
	rotate(t, x, "c", 3)
	hasKeys(t, x, 3, secret("c"), secret("b"), api.OK)
	was := x.Scan(0, 100)
	for _, s := range []string{"", secret("a")[1:], secret("a") + "a"} {
		if n, e := handle.Rotate(x, s); n != 0 || e != api.ErrArg {
			t.Error(n, e)
		}
	}
	if !slices.Equal(was, x.Scan(0, 100)) {
		t.Error("changed by an error")
	}
	put(t, x, space.Meta, 5, "\x00\xff\xfe")
	rotate(t, x, "d", 65535)
	if n, e := handle.Rotate(x, secret("e")); n != 0 || e != api.ErrFull {
		t.Error(n, e)
	}
	hasKeys(t, x, 65535, secret("d"), secret("c"), api.OK)
	for _, bad := range []string{"\x01\x00\x00", "\xff\xff\xff", "", "\x00\x01", "\x00\x00\x00\x01"} {
		put(t, x, space.Meta, 5, bad)
		hasKeys(t, x, 0, "", "", api.ErrForm)
		if n, e := handle.Rotate(x, secret("e")); n != 0 || e != api.ErrForm {
			t.Error(n, e)
		}
		if s, used, e := handle.Seal(x, 1, []uint64{1}); s != "" || used != 0 || e != api.ErrForm {
			t.Error(s, used, e)
		}
		h, _ := handle.Put(api.Handle{Slot: 1, Epoch: 1, KeyNumber: 1}, "")
		opens(t, x, h, 0, api.ErrForm)
	}
	put(t, x, space.Meta, 5, "\x00\x00\x02")
	put(t, x, space.Meta, 6, "whatever")
	put(t, x, space.Meta, 7, "")
	hasKeys(t, x, 2, "whatever", "", api.OK)
}

// P19.3: draws are tried one by one.
func TestSeal(t *testing.T) {
	x := begin(t, 40)
	if s, used, e := handle.Seal(x, 1, []uint64{1}); s != "" || used != 0 || e != api.ErrState {
		t.Error(s, used, e)
	}
	rotate(t, x, "a", 1)
	s := seal(t, x, 9, 7, 8)
	want, _ := handle.Put(api.Handle{Slot: 1, Epoch: 1, Nonce: 7, KeyNumber: 1}, secret("a"))
	if s != want {
		t.Errorf("%x", s)
	}
	try := func(cap int, draws []uint64, wantUsed int, want api.Errno) {
		t.Helper()
		s, used, e := handle.Seal(x, cap, draws)
		if used != wantUsed || e != want || (e != api.OK) != (s == "") {
			t.Errorf("Seal(%d, %v) = %x, %d, %d", cap, draws, s, used, e)
		}
	}
	try(9, nil, 0, api.ErrBusy)
	try(9, []uint64{7, 7, 7}, 3, api.ErrBusy)
	try(9, []uint64{7, 7, 7, 7, 7, 7, 7, 7, 8}, 8, api.ErrBusy)
	try(0, []uint64{7, 8}, 1, api.ErrArg)
	try(0, nil, 0, api.ErrBusy)
	try(9, []uint64{7, 7, 7, 7, 7, 7, 7, 8, 9}, 8, api.OK)
	if s, e := slot.At(x, 2); s != (api.Slot{ID: 2, Cap: 9, Epoch: 1, Nonce: 8}) || e != api.OK {
		t.Error(s, e)
	}
	put(t, x, space.Slot, 3, "bad")
	try(9, []uint64{7, 9}, 2, api.ErrForm)
	key, _ := space.Key(space.Slot, 0, 3)
	x.Delete(key)
	for id := 3; id <= 200; id++ {
		seal(t, x, 9, uint64(1000+id))
	}
	try(9, []uint64{8, 9, 10}, 2, api.ErrFull)
}

// P19.3: where handles lead, and why they don't.
func TestOpen(t *testing.T) {
	x := begin(t, 40)
	rotate(t, x, "a", 1)
	s := seal(t, x, 9, 7)
	opens(t, x, s, 9, api.OK)
	for _, bad := range []string{"", s[1:], s + "x", "\x00\x00" + s[2:]} {
		opens(t, x, bad, 0, api.ErrForm)
	}
	opens(t, x, s[:28]+string([]byte{s[28] ^ 1}), 0, api.ErrSum)
	made := func(slot, epoch int, nonce uint64, number int, key string) string {
		s, e := handle.Put(api.Handle{Slot: slot, Epoch: epoch, Nonce: nonce, KeyNumber: number}, key)
		if e != api.OK {
			t.Fatal(e)
		}
		return s
	}
	opens(t, x, made(1, 1, 7, 2, secret("a")), 0, api.ErrNone)
	opens(t, x, made(1, 1, 7, 1, secret("b")), 0, api.ErrSum)
	opens(t, x, made(1, 1, 7, 1, secret("a")), 9, api.OK)
	opens(t, x, made(2, 1, 7, 1, secret("a")), 0, api.ErrNone)
	opens(t, x, made(1, 2, 7, 1, secret("a")), 0, api.ErrNone)
	opens(t, x, made(1, 1, 8, 1, secret("a")), 0, api.ErrNone)
	slot.Free(x, 9)
	opens(t, x, s, 0, api.ErrRevoked)
	opens(t, x, made(1, 2, 7, 1, secret("a")), 0, api.ErrRevoked)
	opens(t, x, made(1, 3, 7, 1, secret("a")), 0, api.ErrRevoked)
	if again := seal(t, x, 8, 7); again != made(1, 2, 7, 1, secret("a")) {
		t.Errorf("%x", again)
	}
	opens(t, x, s, 0, api.ErrRevoked)
	opens(t, x, made(1, 2, 7, 1, secret("a")), 8, api.OK)
	put(t, x, space.Slot, 1, "bad")
	opens(t, x, s, 0, api.ErrForm)
}

// P19.3, P19.4: the last two keys count, no other one.
func TestOpenKeys(t *testing.T) {
	x := begin(t, 40)
	s0, _ := handle.Put(api.Handle{Slot: 1, Epoch: 1, Nonce: 1, KeyNumber: 1}, "")
	opens(t, x, s0, 0, api.ErrNone)
	rotate(t, x, "a", 1)
	a := seal(t, x, 1, 1)
	rotate(t, x, "b", 2)
	b := seal(t, x, 2, 2)
	opens(t, x, a, 1, api.OK)
	opens(t, x, b, 2, api.OK)
	forged, _ := handle.Put(api.Handle{Slot: 1, Epoch: 1, Nonce: 1, KeyNumber: 1}, secret("b"))
	opens(t, x, forged, 0, api.ErrSum)
	forged, _ = handle.Put(api.Handle{Slot: 1, Epoch: 1, Nonce: 1, KeyNumber: 2}, secret("a"))
	opens(t, x, forged, 0, api.ErrSum)
	rotate(t, x, "c", 3)
	opens(t, x, a, 0, api.ErrNone)
	opens(t, x, b, 2, api.OK)
	rotate(t, x, "d", 4)
	opens(t, x, b, 0, api.ErrNone)
}

// The transaction's error goes ahead of all; nothing else is told then.
func TestTransactionError(t *testing.T) {
	x := begin(t, 8)
	rotate(t, x, "a", 1)
	full := api.OK
	for n := uint64(0); full == api.OK; n++ {
		var s string
		var used int
		s, used, full = handle.Seal(x, 9, []uint64{n})
		if full != api.OK && (s != "" || used != 0) {
			t.Error(s, used)
		}
	}
	if full != api.ErrFull || x.Err() != api.ErrFull {
		t.Error(full)
	}
	for i, call := range []func() api.Errno{
		func() api.Errno { _, _, _, e := handle.Keys(x); return e },
		func() api.Errno { _, e := handle.Rotate(x, ""); return e },
		func() api.Errno { _, _, e := handle.Seal(x, 1, nil); return e },
		func() api.Errno { _, e := handle.Open(x, ""); return e },
	} {
		if e := call(); e != api.ErrFull {
			t.Error(i, e)
		}
	}
}
