package broker_test

import (
	"slices"
	"strings"
	"testing"

	"bailiwick/api"
	"bailiwick/broker"
	"bailiwick/disk"
	"bailiwick/frame"
	"bailiwick/proto"
	"bailiwick/shadow"
	"bailiwick/space"
	"bailiwick/txn"
)

const far = 1<<63 - 1

func newDisk(t *testing.T, sectors int) *disk.Disk {
	t.Helper()
	d, e := disk.New(sectors)
	if e != api.OK {
		t.Fatal(e)
	}
	return d
}

// client is a broker with one session.
type client struct {
	*testing.T
	d       *disk.Disk
	b       *broker.Broker
	session int
	id      int
}

func boot(t *testing.T, d *disk.Disk) *client {
	t.Helper()
	b, e := broker.Boot(d)
	if e != api.OK {
		t.Fatal(e)
	}
	return &client{T: t, d: d, b: b, session: b.Connect()}
}

// start is a client who is ann, with a key and draws to spend.
func start(t *testing.T, sectors int) *client {
	t.Helper()
	c := boot(t, newDisk(t, sectors))
	c.draws(1, 64)
	c.asks(proto.Register{Name: "Ann", Limit: 100}, api.OK)
	c.asks(proto.Hello{Name: "ANN"}, api.OK)
	c.asks(proto.Rotate{}, api.OK)
	return c
}

func (c *client) draws(from uint64, n int) {
	for i := range n {
		c.b.Draw(from + uint64(i))
	}
}

// bytes is the frame of a request.
func bytes(t *testing.T, id int, r any) string {
	t.Helper()
	text, e := proto.Encode(id, r)
	if e != api.OK {
		t.Fatalf("%#v: %d", r, e)
	}
	f, _ := frame.Put(text)
	return f
}

// told reads a framed reply.
func told(t *testing.T, answer string) (id int, code api.Errno, body string) {
	t.Helper()
	r := frame.New()
	r.Add(answer)
	text, ok, _ := r.Next()
	if !ok || r.Rest() != 0 {
		t.Fatalf("no frame: %x", answer)
	}
	id, code, body, e := proto.TakeReply(text)
	if e != api.OK || code != api.OK && body != "" {
		t.Fatalf("no reply: %x", text)
	}
	return id, code, body
}

// again asks by a number; it tells the body.
func (c *client) again(id int, r any, want api.Errno) string {
	c.Helper()
	answers, e := c.b.Feed(c.session, bytes(c.T, id, r))
	if e != api.OK || len(answers) != 1 {
		c.Fatalf("%#v: %x, %d", r, answers, e)
	}
	got, code, body := told(c.T, answers[0])
	if got != id || code != want {
		c.Fatalf("%#v: number %d, code %d, not %d, %d", r, got, code, id, want)
	}
	return body
}

// asks asks by a new number.
func (c *client) asks(r any, want api.Errno) string {
	c.Helper()
	c.id++
	return c.again(c.id, r, want)
}

func (c *client) all() []api.Entry {
	c.Helper()
	all, e := c.b.All()
	if e != api.OK {
		c.Fatal(e)
	}
	return all
}

// same does something that changes nothing.
func (c *client) same(do func()) {
	c.Helper()
	was, draws := c.all(), c.b.Draws()
	do()
	if !slices.Equal(was, c.all()) || draws != c.b.Draws() {
		c.Error("changed")
	}
}

// value tells what a key has.
func (c *client) value(kind, a, b int) (string, bool) {
	key, _ := space.Key(kind, a, b)
	for _, entry := range c.all() {
		if entry.Key == key {
			return entry.Value, true
		}
	}
	return "", false
}

// lay writes a value by hand, behind the broker's back; a new broker has to be booted.
func lay(t *testing.T, d *disk.Disk, kind, a, b int, value string) {
	t.Helper()
	s, e := shadow.Mount(d)
	if e == api.ErrNone {
		s, e = shadow.Format(d)
	}
	if e != api.OK {
		t.Fatal(e)
	}
	x := txn.Begin(s)
	key, _ := space.Key(kind, a, b)
	if !x.Put(key, value) || x.Commit() != api.OK {
		t.Fatal(x.Err())
	}
}

// P23.1: a new disk is formatted, another one mounted.
func TestBoot(t *testing.T) {
	d := newDisk(t, 20)
	c := boot(t, d)
	if !c.b.Up() || c.b.Draws() != 0 || c.session != 1 || len(c.all()) != 0 {
		t.Error(c.b.Draws(), c.session)
	}
	c.b.Draw(5)
	c.b.Tick(9)
	c = boot(t, d)
	if now, e := c.b.Clock(); now != 9 || e != api.OK || c.b.Draws() != 0 || c.session != 1 {
		t.Error(now, e)
	}
	d.Fuse(0)
	if e := d.Write(2, strings.Repeat("x", 256)); e != api.ErrDown {
		t.Fatal(e)
	}
	if b, e := broker.Boot(d); b != nil || e != api.ErrDown {
		t.Error(e)
	}
	d = newDisk(t, 20)
	d.Fuse(0)
	if b, e := broker.Boot(d); b != nil || e != api.ErrDown {
		t.Error(e)
	}
}

// P23.1: all keys are told, rising, whatever they are for.
func TestAll(t *testing.T) {
	d := newDisk(t, 20)
	lay(t, d, 15, api.MaxClock, 1<<32-1, "last")
	lay(t, d, 0, 0, 0, "first")
	lay(t, d, 5, 3, 2, "")
	c := boot(t, d)
	want := []api.Entry{{Key: 0, Value: "first"}, {Key: 0x5000000300000002}, {Key: 1<<64 - 1, Value: "last"}}
	if got := c.all(); !slices.Equal(got, want) {
		t.Error(got)
	}
}

// P23.1: sessions and draws.
func TestSessionsDraws(t *testing.T) {
	c := boot(t, newDisk(t, 20))
	if a, b := c.b.Connect(), c.b.Connect(); a != 2 || b != 3 {
		t.Error(a, b)
	}
	if !c.b.Reset(3) || c.b.Reset(3) || c.b.Reset(0) || c.b.Reset(-1) || c.b.Reset(9) {
		t.Error("Reset")
	}
	if n := c.b.Connect(); n != 4 {
		t.Error(n)
	}
	for _, session := range []int{3, 0, -1, 5, far} {
		if answers, e := c.b.Feed(session, "x"); len(answers) != 0 || e != api.ErrNone {
			t.Error(answers, e)
		}
	}
	for n := range 64 {
		if c.b.Draws() != n || !c.b.Draw(7) {
			t.Error(n)
		}
	}
	if c.b.Draw(7) || c.b.Draws() != 64 {
		t.Error(c.b.Draws())
	}
}

// P23.2: pieces of frames, what is no request, and what is too long.
func TestFeed(t *testing.T) {
	c := start(t, 60)
	stream := bytes(t, 258, proto.Quota{}) + "\x00\x02\x01\x0c" + "\x00\x00" + bytes(t, 9, proto.Hello{Name: "nobody"}) + bytes(t, 1<<32-1, proto.Quota{})
	quota := "\x00\x64\x00\x00"
	want := []string{
		"\x00\x0b\x01\x00\x00\x01\x02\x00\x04" + quota, "\x00\x07\x01\x00\x00\x00\x00\x02\x00", "\x00\x07\x01\x00\x00\x00\x00\x02\x00",
		"\x00\x07\x01\x00\x00\x00\x09\x03\x00", "\x00\x0b\x01\xff\xff\xff\xff\x00\x04" + quota,
	}
	if got, e := c.b.Feed(c.session, stream); !slices.Equal(got, want) || e != api.OK {
		t.Errorf("%x %d", got, e)
	}
	var got []string
	for i := range len(stream) {
		answers, e := c.b.Feed(c.session, stream[i:i+1])
		if e != api.OK {
			t.Error(e)
		}
		got = append(got, answers...)
	}
	if !slices.Equal(got, want) {
		t.Errorf("%x", got)
	}
	got, e := c.b.Feed(c.session, bytes(t, 5, proto.Quota{})+"\x00\xc9"+bytes(t, 6, proto.Quota{}))
	if !slices.Equal(got, []string{"\x00\x0b\x01\x00\x00\x00\x05\x00\x04" + quota, "\x00\x07\x01\x00\x00\x00\x00\x10\x00"}) || e != api.OK {
		t.Errorf("%x %d", got, e)
	}
	if _, e := c.b.Feed(c.session, ""); e != api.ErrNone || c.b.Reset(c.session) {
		t.Error(e)
	}
}

// P23.2: who is asking.
func TestHello(t *testing.T) {
	c := boot(t, newDisk(t, 60))
	c.draws(1, 10)
	for _, r := range []any{proto.Quota{}, proto.Rotate{}, proto.Mint{Object: 1}, proto.Validate{Handle: strings.Repeat("x", 29)}} {
		c.asks(r, api.ErrState)
	}
	c.asks(proto.Hello{Name: "ann"}, api.ErrNone)
	if body := c.asks(proto.Register{Name: "ann", Limit: 3}, api.OK); body != "\x00\x00\x01" {
		t.Errorf("%x", body)
	}
	c.asks(proto.Quota{}, api.ErrState)
	if body := c.asks(proto.Hello{Name: "Ann"}, api.OK); body != "" {
		t.Errorf("%x", body)
	}
	c.asks(proto.Register{Name: "bob", Limit: 4}, api.OK)
	c.asks(proto.Hello{Name: "nobody"}, api.ErrNone)
	if body := c.asks(proto.Quota{}, api.OK); body != "\x00\x03\x00\x00" {
		t.Errorf("%x", body)
	}
	c.asks(proto.Hello{Name: "bob"}, api.OK)
	if body := c.asks(proto.Quota{}, api.OK); body != "\x00\x04\x00\x00" {
		t.Errorf("%x", body)
	}
	second := &client{T: t, b: c.b, session: c.b.Connect()}
	second.asks(proto.Quota{}, api.ErrState)
}

// P23.3, T7: a request that is asked again is answered as before, while its reply is kept.
func TestOnce(t *testing.T) {
	c := start(t, 100)
	mint := proto.Mint{Object: 3, Rights: 7}
	h := c.again(100, mint, api.OK)
	if v, is := c.value(space.Reply, 1, 100); !is || v != "\x00"+h {
		t.Errorf("%x", v)
	}
	c.same(func() {
		for range 3 {
			if again := c.again(100, mint, api.OK); again != h {
				t.Errorf("%x", again)
			}
		}
		if again := c.again(100, proto.Rotate{}, api.OK); again != h {
			t.Errorf("%x", again)
		}
	})
	if body := c.again(100, proto.Quota{}, api.OK); body != "\x00\x64\x00\x01" {
		t.Errorf("%x", body)
	}
	for id := 101; id <= 107; id++ {
		c.again(id, proto.Renew{Handle: h, Expiry: id}, api.OK)
	}
	c.same(func() { c.again(100, mint, api.OK) })
	c.again(108, proto.Renew{Handle: h, Expiry: 1}, api.OK)
	if _, is := c.value(space.Reply, 1, 100); is {
		t.Error("the least one is kept")
	}
	if again := c.again(100, mint, api.OK); again == h || len(again) != 29 {
		t.Errorf("%x", again)
	}
	if _, is := c.value(space.Reply, 1, 100); is {
		t.Error("the least one is kept, though it is new")
	}
	if body := c.asks(proto.Quota{}, api.OK); body != "\x00\x64\x00\x02" {
		t.Errorf("%x", body)
	}
}

// P23.3: replies are kept of each principal, of none too; errors are not.
func TestKept(t *testing.T) {
	c := boot(t, newDisk(t, 100))
	ann := proto.Register{Name: "ann", Limit: 9}
	c.again(5, ann, api.OK)
	c.same(func() { c.again(5, proto.Register{Name: "bob"}, api.OK) })
	c.again(6, ann, api.ErrExists)
	c.asks(proto.Hello{Name: "ann"}, api.OK)
	if body := c.again(5, proto.Register{Name: "bob"}, api.OK); body != "\x00\x00\x02" {
		t.Errorf("%x", body)
	}
	if _, is := c.value(space.Reply, 0, 6); is {
		t.Error("an error is kept")
	}
	c = boot(t, c.d)
	c.same(func() {
		if body := c.again(5, ann, api.OK); body != "\x00\x00\x01" {
			t.Errorf("%x", body)
		}
	})
	lay(t, c.d, space.Reply, 0, 7, "\x05body")
	lay(t, c.d, space.Reply, 0, 8, "")
	c = boot(t, c.d)
	c.again(8, ann, api.ErrForm)
	if answers, e := c.b.Feed(c.session, bytes(t, 7, ann)); e != api.OK || !slices.Equal(answers, []string{"\x00\x0b\x01\x00\x00\x00\x07\x05\x04body"}) {
		t.Errorf("%x %d", answers, e)
	}
}

// P23.3: which draws are gone.
func TestDraws(t *testing.T) {
	c := boot(t, newDisk(t, 100))
	c.asks(proto.Register{Name: "ann", Limit: 2}, api.OK)
	c.asks(proto.Hello{Name: "ann"}, api.OK)
	c.draws(1, 3)
	c.same(func() { c.asks(proto.Rotate{}, api.ErrBusy) })
	mint := proto.Mint{Object: 3}
	c.same(func() { c.asks(mint, api.ErrState) })
	c.draws(4, 2)
	c.asks(proto.Rotate{}, api.OK)
	if c.b.Draws() != 1 {
		t.Error(c.b.Draws())
	}
	if v, _ := c.value(space.Meta, 0, 6); v[7] != 1 || v[31] != 4 {
		t.Errorf("%x", v)
	}
	c.asks(mint, api.OK)
	c.asks(mint, api.ErrBusy)
	for range 10 {
		c.b.Draw(5)
	}
	was := c.all()
	c.asks(mint, api.ErrBusy)
	if c.b.Draws() != 2 || !slices.Equal(was, c.all()) {
		t.Error(c.b.Draws())
	}
	c.b.Draw(6)
	c.b.Draw(7)
	c.asks(mint, api.OK)
	if c.b.Draws() != 1 {
		t.Error(c.b.Draws())
	}
	c.same(func() { c.asks(mint, api.ErrQuota) })
}

// P23.3: the request under way is not answered when the power goes; those ahead of it are.
func TestDown(t *testing.T) {
	c := start(t, 100)
	stream := bytes(t, 50, proto.Quota{}) + bytes(t, 51, proto.Mint{Object: 1}) + bytes(t, 52, proto.Quota{})
	c.d.Fuse(2)
	answers, e := c.b.Feed(c.session, stream)
	if len(answers) != 1 || e != api.ErrDown || c.b.Up() {
		t.Errorf("%x %d", answers, e)
	}
	c.d.Crash(nil)
	if answers, e := c.b.Feed(c.session, stream); len(answers) != 0 || e != api.ErrDown {
		t.Error(answers, e)
	}
	if answers, e := c.b.Feed(99, ""); len(answers) != 0 || e != api.ErrDown {
		t.Error(answers, e)
	}
	if n, e := c.b.Tick(-1); n != 0 || e != api.ErrDown {
		t.Error(n, e)
	}
	if n, e := c.b.Idle(); n != 0 || e != api.ErrDown {
		t.Error(n, e)
	}
	if n, e := c.b.Clock(); n != 0 || e != api.ErrDown {
		t.Error(n, e)
	}
	if all, e := c.b.All(); len(all) != 0 || e != api.ErrDown {
		t.Error(all, e)
	}
	if c.b.Connect() != 2 || !c.b.Reset(2) || !c.b.Draw(1) {
		t.Error("what tells no errors")
	}
	c = boot(t, c.d)
	if body := c.asks(proto.Hello{Name: "ann"}, api.OK); body != "" {
		t.Error(body)
	}
	if body := c.asks(proto.Quota{}, api.OK); body != "\x00\x64\x00\x00" {
		t.Errorf("%x", body)
	}
}

// P23.2: looking without power.
func TestDownLooking(t *testing.T) {
	for _, r := range []any{proto.Hello{Name: "ann"}, proto.Quota{}} {
		c := start(t, 100)
		c.d.Fuse(0)
		c.d.Write(9, strings.Repeat("x", 256))
		if !c.b.Up() {
			t.Error("told too early")
		}
		if answers, e := c.b.Feed(c.session, bytes(t, 5, r)); len(answers) != 0 || e != api.ErrDown || c.b.Up() {
			t.Error(answers, e)
		}
	}
}

// P23.4: the clock.
func TestTick(t *testing.T) {
	c := boot(t, newDisk(t, 20))
	if now, e := c.b.Tick(5); now != 5 || e != api.OK {
		t.Error(now, e)
	}
	c.same(func() {
		for n, want := range map[int]api.Errno{-1: api.ErrArg, -far - 1: api.ErrArg, far: api.ErrClock, api.MaxClock - 4: api.ErrClock} {
			if now, e := c.b.Tick(n); now != 0 || e != want {
				t.Error(n, now, e)
			}
		}
	})
	if now, e := c.b.Tick(api.MaxClock - 5); now != api.MaxClock || e != api.OK {
		t.Error(now, e)
	}
	c = boot(t, c.d)
	if now, e := c.b.Clock(); now != api.MaxClock || e != api.OK {
		t.Error(now, e)
	}
}

// A clock that is none is told by all that need it.
func TestBadClock(t *testing.T) {
	c := start(t, 60)
	lay(t, c.d, space.Meta, 0, 4, "bad")
	c = boot(t, c.d)
	c.asks(proto.Hello{Name: "ann"}, api.OK)
	c.asks(proto.Quota{}, api.ErrForm)
	c.asks(proto.Rotate{}, api.OK) // its number's reply is kept
	c.id = 90
	c.asks(proto.Rotate{}, api.ErrForm)
	for _, call := range []func() (int, api.Errno){c.b.Clock, c.b.Idle, func() (int, api.Errno) { return c.b.Tick(1) }} {
		if n, e := call(); n != 0 || e != api.ErrForm {
			t.Error(n, e)
		}
	}
}

func (c *client) idle(want int) {
	c.Helper()
	if n, e := c.b.Idle(); n != want || e != api.OK {
		c.Errorf("Idle() = %d, %d, not %d", n, e, want)
	}
}

// P23.4: idle steps end what is due, at most Chunk caps, and sweep, at most Chunk.
func TestIdle(t *testing.T) {
	c := start(t, 200)
	gen := func() int {
		s, _ := shadow.Mount(c.d)
		return s.Gen()
	}
	was := gen()
	c.idle(0)
	if gen() != was {
		t.Error("committed for nothing")
	}
	var hs []string
	for n := range 6 {
		hs = append(hs, c.asks(proto.Mint{Object: 1, Rights: 3, Expiry: 10 + n}, api.OK))
		c.asks(proto.Derive{Handle: hs[n], Name: "ann", Rights: 1}, api.OK)
	}
	c.b.Tick(12)
	c.asks(proto.Validate{Handle: hs[2]}, api.ErrExpired)
	c.asks(proto.Validate{Handle: hs[3]}, api.OK)
	c.idle(4)
	c.asks(proto.Validate{Handle: hs[2]}, api.ErrRevoked)
	c.b.Tick(10)
	c.idle(4)
	c.idle(4)
	c.idle(0)
	if body := c.asks(proto.Quota{}, api.OK); body != "\x00\x64\x00\x00" {
		t.Errorf("%x", body)
	}
	h := c.asks(proto.Mint{Object: 1}, api.OK)
	for range 9 {
		c.asks(proto.Derive{Handle: h, Name: "ann"}, api.OK)
	}
	c.asks(proto.Revoke{Handle: h}, api.OK)
	c.idle(4)
	c.idle(4)
	c.idle(1)
	c.asks(proto.Validate{Handle: h}, api.OK)
	was = gen()
	c.idle(0)
	if gen() != was {
		t.Error("committed for nothing")
	}
}

// P23.4: a cap that is due and was revoked is passed over; one that is not there is told.
func TestIdleErrors(t *testing.T) {
	c := start(t, 100)
	h := c.asks(proto.Mint{Object: 1, Expiry: 5}, api.OK)
	c.asks(proto.Derive{Handle: h, Name: "ann", Expiry: 3}, api.OK)
	c.asks(proto.Revoke{Handle: h, Self: true}, api.OK)
	lay(t, c.d, space.Lease, 4, 1, "")
	c = boot(t, c.d)
	c.b.Tick(4)
	c.idle(2)
	lay(t, c.d, space.Lease, 2, 99, "")
	c = boot(t, c.d)
	c.same(func() {
		if n, e := c.b.Idle(); n != 0 || e != api.ErrNone {
			t.Error(n, e)
		}
	})
}
