package proto_test

import (
	"strings"
	"testing"

	"bailiwick/api"
	"bailiwick/proto"
)

const far = 1<<63 - 1

var (
	h1 = strings.Repeat("h", 29)
	h2 = strings.Repeat("\x00", 29)
)

// asked is each request with its bytes behind the number.
var asked = []struct {
	r      any
	op     int
	fields string
	handle bool
	change bool
}{
	{proto.Hello{Name: "Ann"}, 1, "\x03Ann", false, false},
	{proto.Register{Name: "é", Limit: 1000}, 2, "\x02\xc3\xa9\x03\xe8", false, true},
	{proto.Register{Name: "a"}, 2, "\x01a\x00\x00", false, true},
	{proto.Mint{Object: 1}, 3, "\x00\x00\x01\x00" + strings.Repeat("\x00", 8), false, true},
	{proto.Mint{Object: 258, Rights: 5, Badge: 1<<32 - 1, Expiry: api.MaxClock}, 3, "\x00\x01\x02\x02ac\xff\xff\xff\xff\x0f\xff\xff\xff", false, true},
	{proto.Mint{Object: api.MaxID, Rights: 65535}, 3, "\xff\xff\xff\x10abcdefghijklmnop" + strings.Repeat("\x00", 8), false, true},
	{proto.Derive{Handle: h1, Name: "bob", Rights: 0, Badge: 1, Expiry: 2}, 4, h1 + "\x03bob\x00\x00\x00\x00\x01\x00\x00\x00\x02", true, true},
	{proto.Renew{Handle: h1, Expiry: 77}, 5, h1 + "\x00\x00\x00\x4d", true, true},
	{proto.Validate{Handle: h2}, 6, h2, true, false},
	{proto.Invoke{Handle: h1, Right: 'p'}, 7, h1 + "\x01p", true, false},
	{proto.Invoke{Handle: h1, Right: 'a'}, 7, h1 + "\x01a", true, false},
	{proto.Revoke{Handle: h1, Self: true}, 8, h1 + "\x01", true, true},
	{proto.Revoke{Handle: h1}, 8, h1 + "\x00", true, true},
	{proto.Delete{Handle: h1}, 9, h1, true, true},
	{proto.Move{Handle: h1, To: h2}, 10, h1 + h2, true, true},
	{proto.List{Handle: h1, From: api.MaxID, Most: 10}, 11, h1 + "\xff\xff\xff\x0a", true, false},
	{proto.List{Handle: h1}, 11, h1 + "\x00\x00\x00\x00", true, false},
	{proto.Quota{}, 12, "", false, false},
	{proto.Rotate{}, 13, "", false, true},
}

type stranger struct{ proto.Validate }

type other proto.Quota

// wrong is what is no request, or none that is right.
func wrong() []any {
	long := strings.Repeat("a", 17)
	return []any{
		nil, 5, "text", stranger{proto.Validate{Handle: h1}}, other{}, &proto.Quota{}, (*proto.Hello)(nil), &proto.Validate{Handle: h1}, []int{1}, map[string]int{}, func() {},
		proto.Hello{}, proto.Hello{Name: long}, proto.Hello{Name: "a..b"},
		proto.Register{Limit: 1}, proto.Register{Name: "a", Limit: -1}, proto.Register{Name: "a", Limit: 1001}, proto.Register{Name: "a", Limit: far},
		proto.Mint{}, proto.Mint{Object: api.MaxID + 1}, proto.Mint{Object: 1, Rights: -1}, proto.Mint{Object: 1, Rights: 65536}, proto.Mint{Object: 1, Badge: -1},
		proto.Mint{Object: 1, Badge: 1 << 32}, proto.Mint{Object: 1, Expiry: -1}, proto.Mint{Object: 1, Expiry: api.MaxClock + 1}, proto.Mint{Object: -far - 1},
		proto.Derive{Name: "a"}, proto.Derive{Handle: h1}, proto.Derive{Handle: h1[1:], Name: "a"}, proto.Derive{Handle: h1, Name: "a", Rights: 65536},
		proto.Derive{Handle: h1, Name: "a", Badge: 1 << 32}, proto.Derive{Handle: h1, Name: "a", Expiry: -1},
		proto.Renew{}, proto.Renew{Handle: h1, Expiry: -1}, proto.Renew{Handle: h1, Expiry: api.MaxClock + 1}, proto.Renew{Handle: h1 + "x"},
		proto.Validate{}, proto.Invoke{Right: 'a'}, proto.Invoke{Handle: h1}, proto.Invoke{Handle: h1, Right: 'q'}, proto.Invoke{Handle: h1, Right: '`'}, proto.Invoke{Handle: h1, Right: -1},
		proto.Revoke{}, proto.Delete{}, proto.Delete{Handle: h1 + "x"}, proto.Move{Handle: h1}, proto.Move{To: h1}, proto.Move{Handle: h1, To: h1 + "x"},
		proto.List{}, proto.List{Handle: h1, From: -1}, proto.List{Handle: h1, From: api.MaxID + 1}, proto.List{Handle: h1, Most: -1}, proto.List{Handle: h1, Most: 11},
	}
}

// P21.1: what is a request that is right; P21.3: which bear handles, and which change something.
func TestRight(t *testing.T) {
	for _, c := range asked {
		if !proto.Right(c.r) || c.r.(proto.Request).Op() != c.op || proto.Mutates(c.r) != c.change {
			t.Errorf("%T", c.r)
		}
		h, ok := proto.Bears(c.r)
		if ok != c.handle || ok && h != c.fields[:29] || !ok && h != "" {
			t.Errorf("%T: %q %v", c.r, h, ok)
		}
	}
	for i, r := range wrong() {
		h, ok := proto.Bears(r)
		s, e := proto.Encode(1, r)
		if proto.Right(r) || proto.Mutates(r) || ok || h != "" || s != "" || e != api.ErrArg {
			t.Errorf("wrong request %d: %T", i, r)
		}
	}
}

// P21.2: requests as bytes.
func TestEncode(t *testing.T) {
	for _, c := range asked {
		for id, number := range map[int]string{0: "\x00\x00\x00\x00", 258: "\x00\x00\x01\x02", 1<<32 - 1: "\xff\xff\xff\xff"} {
			want := "\x01" + string(rune(c.op)) + number + c.fields
			if s, e := proto.Encode(id, c.r); s != want || e != api.OK {
				t.Errorf("Encode(%d, %#v) = %x, %d", id, c.r, s, e)
			}
			if got, r, e := proto.Decode(want); got != id || r != c.r || e != api.OK {
				t.Errorf("Decode(%x) = %d, %#v, %d", want, got, r, e)
			}
		}
		for _, id := range []int{-1, 1 << 32, far, -far - 1} {
			if s, e := proto.Encode(id, c.r); s != "" || e != api.ErrArg {
				t.Errorf("Encode(%d, %T): %d", id, c.r, e)
			}
		}
	}
	if s, _ := proto.Encode(7, proto.Quota{}); s != "\x01\x0c\x00\x00\x00\x07" {
		t.Errorf("%x", s)
	}
}

func refused(t *testing.T, b string) {
	t.Helper()
	if id, r, e := proto.Decode(b); id != 0 || r != nil || e != api.ErrForm {
		t.Errorf("Decode(%x) = %d, %#v, %d", b, id, r, e)
	}
}

// P21.2: bytes that are no request.
func TestDecodeWrong(t *testing.T) {
	head := func(op string) string { return "\x01" + op + "\x00\x00\x00\x07" }
	for _, c := range asked {
		s, _ := proto.Encode(7, c.r)
		for n := range s {
			refused(t, s[:n])
		}
		refused(t, s+"\x00")
		refused(t, "\x00"+s[1:])
		refused(t, "\x02"+s[1:])
	}
	for _, b := range []string{
		head("\x00"), head("\x0e"), head("\xff"),
		head("\x01") + "\x00", head("\x01") + "\x03a..",
		head("\x02") + "\x01a\x03\xe9",
		head("\x03") + "\x00\x00\x00\x00" + strings.Repeat("\x00", 8),
		head("\x03") + "\x00\x00\x01\x02ca" + strings.Repeat("\x00", 8),
		head("\x03") + "\x00\x00\x01\x02aa" + strings.Repeat("\x00", 8),
		head("\x03") + "\x00\x00\x01\x01q" + strings.Repeat("\x00", 8),
		head("\x03") + "\x00\x00\x01\x01a\x00\x00\x00\x00\x10\x00\x00\x00",
		head("\x07") + h1 + "\x00", head("\x07") + h1 + "\x02aa", head("\x07") + h1 + "\x01q", head("\x07") + h1 + "\x01\xff", head("\x07") + h1 + "\x01A",
		head("\x08") + h1 + "\x02", head("\x08") + h1 + "\xff",
		head("\x0b") + h1 + "\x00\x00\x00\x0b",
	} {
		refused(t, b)
	}
}

// P21.3: replies as bytes.
func TestReply(t *testing.T) {
	long := strings.Repeat("b", 100)
	for _, c := range []struct {
		id   int
		code api.Errno
		body string
		want string
	}{
		{7, 0, "", "\x01\x00\x00\x00\x07\x00\x00"},
		{1<<32 - 1, 255, "ab", "\x01\xff\xff\xff\xff\xff\x02ab"},
		{0, api.ErrLong, long, "\x01\x00\x00\x00\x00\x10\x64" + long},
	} {
		if s, e := proto.Reply(c.id, c.code, c.body); s != c.want || e != api.OK {
			t.Errorf("Reply(%d, %d, %q) = %x, %d", c.id, c.code, c.body, s, e)
		}
		if id, code, body, e := proto.TakeReply(c.want); id != c.id || code != c.code || body != c.body || e != api.OK {
			t.Errorf("TakeReply(%x) = %d, %d, %q, %d", c.want, id, code, body, e)
		}
		for n := range c.want {
			refusedReply(t, c.want[:n])
		}
		refusedReply(t, c.want+"\x00")
		refusedReply(t, "\x02"+c.want[1:])
	}
	refusedReply(t, "\x01\x00\x00\x00\x00\x00\x65"+long+"b")
	for _, c := range []struct {
		id   int
		code api.Errno
		body string
	}{{-1, 0, ""}, {1 << 32, 0, ""}, {0, -1, ""}, {0, 256, ""}, {0, 0, long + "b"}, {far, far, ""}, {-far - 1, -far - 1, ""}} {
		if s, e := proto.Reply(c.id, c.code, c.body); s != "" || e != api.ErrArg {
			t.Errorf("Reply(%d, %d): %d", c.id, c.code, e)
		}
	}
}

func refusedReply(t *testing.T, b string) {
	t.Helper()
	if id, code, body, e := proto.TakeReply(b); id != 0 || code != 0 || body != "" || e != api.ErrForm {
		t.Errorf("TakeReply(%x) = %d, %d, %q, %d", b, id, code, body, e)
	}
}
