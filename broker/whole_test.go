package broker_test

import (
	"fmt"
	"math/rand"
	"slices"
	"strings"
	"testing"

	"bailiwick/api"
	"bailiwick/broker"
	"bailiwick/disk"
	"bailiwick/proto"
	"bailiwick/shadow"
	"bailiwick/space"
	"bailiwick/tree"
)

// deed is one thing that is done to a broker.
type deed struct {
	kind    byte // 'f' a request, 't' a tick, 'i' an idle step, 'd' a draw, 'c' a session, 'r' a session's end
	session int
	id, n   int
	r       any
}

// play makes deeds as they come, with the handles that were told.
type play struct {
	*rand.Rand
	handles  []string
	sessions int
	limit    int    // of principals
	first    []deed // those that are done ahead of what comes
}

func newPlay(seed int64, limit int) *play {
	return &play{Rand: rand.New(rand.NewSource(seed)), sessions: 2, limit: limit, first: opening(limit)}
}

func (p *play) handle() string {
	if len(p.handles) == 0 || p.Intn(40) == 0 {
		return strings.Repeat(string(rune('!'+p.Intn(90))), 29)
	}
	h := p.handles[p.Intn(len(p.handles))]
	if p.Intn(40) == 0 {
		b := []byte(h)
		b[p.Intn(29)] ^= 1 << p.Intn(8)
		return string(b)
	}
	return h
}

func (p *play) name() string { return []string{"ann", "Bob", "cid.Y", "dan"}[p.Intn(4)] }

func (p *play) rights() int { return p.Intn(65536) }

func (p *play) expiry() int { return p.Intn(2) * p.Intn(250) }

func (p *play) request() any {
	switch p.Intn(30) {
	case 0:
		return proto.Register{Name: p.name(), Limit: p.limit}
	case 1, 2:
		return proto.Hello{Name: p.name()}
	case 3, 4, 5:
		return proto.Mint{Object: 1 + p.Intn(5), Rights: p.rights() | p.rights() | p.rights(), Badge: p.Intn(1 << 32), Expiry: p.expiry()}
	case 6, 7, 8, 9, 10, 11:
		return proto.Derive{Handle: p.handle(), Name: p.name(), Rights: p.rights() & p.rights() & p.rights() & p.rights(), Badge: p.Intn(9), Expiry: p.expiry()}
	case 12, 13:
		return proto.Renew{Handle: p.handle(), Expiry: p.expiry()}
	case 14, 15:
		return proto.Validate{Handle: p.handle()}
	case 16, 17:
		return proto.Invoke{Handle: p.handle(), Right: 'a' + rune(p.Intn(16))}
	case 18, 19:
		return proto.Revoke{Handle: p.handle(), Self: p.Intn(3) == 0}
	case 20, 21:
		return proto.Delete{Handle: p.handle()}
	case 22, 23:
		return proto.Move{Handle: p.handle(), To: p.handle()}
	case 24, 25:
		return proto.List{Handle: p.handle(), From: p.Intn(2) * p.Intn(60), Most: p.Intn(11)}
	case 27:
		if p.Intn(8) == 0 {
			return proto.Rotate{}
		}
	}
	return proto.Quota{}
}

func (p *play) deed() deed {
	if len(p.first) > 0 {
		x := p.first[0]
		p.first = p.first[1:]
		return x
	}
	switch p.Intn(20) {
	case 0:
		return deed{kind: 't', n: p.Intn(8) - 1}
	case 1, 2:
		return deed{kind: 'i'}
	case 3, 4, 5, 6:
		return deed{kind: 'd', n: p.Intn(400)}
	case 7:
		if p.Intn(10) == 0 {
			p.sessions++
			return deed{kind: 'c'}
		}
	}
	return deed{kind: 'f', session: 1 + p.Intn(p.sessions), id: p.Intn(20) * p.Intn(20), r: p.request()}
}

// opening is what all plays begin with: a few principals, a key.
func opening(limit int) []deed {
	deeds := []deed{{kind: 'c'}, {kind: 'c'}}
	for n := range 40 {
		deeds = append(deeds, deed{kind: 'd', n: 1000 + n})
	}
	for i, name := range []string{"ann", "bob"} {
		deeds = append(deeds,
			deed{kind: 'f', session: i + 1, id: 100 + i, r: proto.Register{Name: name, Limit: limit}},
			deed{kind: 'f', session: i + 1, id: 100, r: proto.Hello{Name: name}})
	}
	return append(deeds, deed{kind: 'f', session: 1, id: 200, r: proto.Rotate{}})
}

// outcome is what a deed came to.
type outcome struct {
	e    api.Errno
	n    int
	code api.Errno
	body string
}

// play does a deed with a broker.
func (x deed) do(t *testing.T, b *broker.Broker) (o outcome) {
	t.Helper()
	switch x.kind {
	case 'c':
		o.n = b.Connect()
	case 'd':
		b.Draw(uint64(x.n))
		o.n = b.Draws()
	case 't':
		o.n, o.e = b.Tick(x.n)
	case 'i':
		o.n, o.e = b.Idle()
	case 'f':
		answers, e := b.Feed(x.session, bytes(t, x.id, x.r))
		if o.e = e; e != api.OK {
			if len(answers) != 0 {
				t.Fatal("answers beside", e)
			}
			return o
		}
		id, code, body := told(t, answers[0])
		if len(answers) != 1 || id != x.id {
			t.Fatal(answers)
		}
		o.n, o.code, o.body = b.Draws(), code, body
	}
	return o
}

// model does a deed with the model.
func (x deed) model(m *model) (o outcome) {
	switch x.kind {
	case 'c':
		o.n = len(m.owner) + 1
		m.owner[o.n] = 0
	case 'd':
		if len(m.draws) < 64 {
			m.draws = append(m.draws, uint64(x.n))
		}
		o.n = len(m.draws)
	case 't':
		if o.e = m.tick(x.n); o.e == api.OK {
			o.n = m.meta(4)
		}
	case 'i':
		o.n = m.idle()
	case 'f':
		o.code, o.body = m.ask(x.session, x.id, x.r)
		o.n = len(m.draws)
	}
	return o
}

// learn keeps a handle that was told.
func (p *play) learn(x deed, o outcome) {
	if x.kind == 'f' && len(o.body) == 29 && o.code == api.OK {
		p.handles = append(p.handles, o.body)
		if len(p.handles) > 60 {
			p.handles = p.handles[5:]
		}
	}
}

// T1: each answer, and all keys and values, are as the chapters say.
func TestAsDocument(t *testing.T) {
	for seed := range int64(12) {
		p := newPlay(seed, 10+int(seed%3)*40)
		b, _ := broker.Boot(newDisk(t, 640))
		m := newModel()
		codes := map[api.Errno]int{}
		for i := range 900 {
			x := p.deed()
			want, got := x.model(m), x.do(t, b)
			if got != want {
				t.Fatalf("seed %d, deed %d: %+v: %+v, not %+v", seed, i, x, got, want)
			}
			codes[got.code]++
			p.learn(x, got)
			all, e := b.All()
			if i%7 == 0 && (e != api.OK || !slices.Equal(all, m.all())) {
				t.Fatalf("seed %d, deed %d: %+v: other keys", seed, i, x)
			}
		}
		if len(codes) < 7 {
			t.Error("a dull play", codes)
		}
	}
}

// script is a play that was done once without a crash: what there was behind each deed.
type script struct {
	deeds  []deed
	told   []outcome
	states [][]api.Entry
}

func newScript(t *testing.T, seed int64, sectors, length int) script {
	t.Helper()
	p := newPlay(seed, 30)
	b, _ := broker.Boot(newDisk(t, sectors))
	var s script
	for range length {
		x := p.deed()
		o := x.do(t, b)
		p.learn(x, o)
		all, _ := b.All()
		s.deeds, s.told, s.states = append(s.deeds, x), append(s.told, o), append(s.states, all)
	}
	return s
}

// until does the deeds till the power goes; it tells how many were answered.
func (s script) until(t *testing.T, b *broker.Broker) int {
	t.Helper()
	for i, x := range s.deeds {
		o := x.do(t, b)
		if o.e == api.ErrDown {
			return i
		}
		if o != s.told[i] {
			t.Fatalf("deed %d: %+v: %+v, not %+v", i, x, o, s.told[i])
		}
	}
	return len(s.deeds)
}

func (s script) state(n int) []api.Entry {
	if n == 0 {
		return nil
	}
	return s.states[n-1]
}

// T2: wherever the power goes, and whatever is kept, there is what was answered, or that and the one under way, whole.
func TestLasts(t *testing.T) {
	s := newScript(t, 5, 300, 150)
	r := rand.New(rand.NewSource(6))
	for name, keep := range map[string]func() int{
		"nothing": func() int { return 0 },
		"all":     func() int { return 1 },
		"some":    func() int { return r.Intn(2) },
	} {
		for writes := 0; s.crash(t, name, writes, keep); writes++ {
		}
	}
}

// crash does the deeds till the power goes behind so many writes: did it?
func (s script) crash(t *testing.T, name string, writes int, keep func() int) bool {
	t.Helper()
	d := newDisk(t, 300)
	d.Fuse(writes)
	n := 0
	if b, e := broker.Boot(d); e == api.OK {
		n = s.until(t, b)
	}
	if n == len(s.deeds) {
		return false
	}
	kept := make([]int, len(d.Loose()))
	for i := range kept {
		kept[i] = keep()
	}
	d.Crash(kept)
	b, e := broker.Boot(d)
	if e != api.OK {
		t.Fatal("Boot", writes, e)
	}
	all, e := b.All()
	if e != api.OK || !slices.Equal(all, s.state(n)) && !slices.Equal(all, s.state(n+1)) {
		t.Fatalf("%s kept, %d writes, deed %d: neither what was nor what would be (%d)", name, writes, n, e)
	}
	noWaste(t, d)
	return true
}

// noWaste looks if the used pages are just those of the tree.
func noWaste(t *testing.T, d *disk.Disk) {
	t.Helper()
	s, e := shadow.Mount(d)
	if e != api.OK {
		t.Fatal(e)
	}
	pages, e := tree.Pages(s, s.Root())
	slices.Sort(pages)
	if e != api.OK || !slices.Equal(pages, s.Used()) {
		t.Fatalf("pages %v, used %v (%d)", pages, s.Used(), e)
	}
}

// T3: what is revoked, or has come to its end, stays so for each handle that was told of it.
func TestRevokedStays(t *testing.T) {
	for seed := range int64(8) {
		p := newPlay(100+seed, 60)
		d := newDisk(t, 640)
		b, _ := broker.Boot(d)
		m := newModel()
		toldOf := map[string]int{}  // the cap of each handle
		dead := map[string]string{} // why a handle is dead
		for i := range 1200 {
			x := p.deed()
			below, intents := revokes(m, x), m.meta(3)
			x.model(m)
			if m.meta(3) == intents { // a reply that was kept
				below = nil
			}
			o := x.do(t, b)
			p.learn(x, o)
			if _, known := toldOf[o.body]; !known && len(o.body) == 29 {
				m.attempt(func() { toldOf[o.body] = m.look(o.body).id })
			}
			for h, id := range toldOf {
				if slices.Contains(below, id) {
					dead[h] = "revoked"
				}
				if _, is := dead[h]; !is && over(m, id) {
					dead[h] = "ended"
				}
			}
			if i%20 == 0 {
				for h, why := range dead {
					o := deed{kind: 'f', session: 1, id: 999, r: proto.Validate{Handle: h}}.do(t, b)
					if o.code != api.ErrRevoked && o.code != api.ErrNone && (why == "revoked" || o.code != api.ErrExpired) {
						t.Fatalf("seed %d, deed %d: a handle that is %s: %d", seed, i, why, o.code)
					}
				}
			}
		}
		if len(dead) < 5 {
			t.Error("a dull play", len(dead), len(toldOf))
		}
	}
}

// revokes tells the caps that a deed revokes.
func revokes(m *model, x deed) (ids []int) {
	r, is := x.r.(proto.Revoke)
	if !is {
		return nil
	}
	m.attempt(func() {
		c := m.look(r.Handle)
		if r.Self {
			ids = append(ids, c.id)
		}
		todo := m.under(2, c.id)
		for len(todo) > 0 {
			ids = append(ids, todo[0])
			todo = append(todo[1:], m.under(2, todo[0])...)
		}
	})
	return ids
}

// over tells if a cap has ended, by itself or by one above it.
func over(m *model, id int) (is bool) {
	m.attempt(func() {
		end := m.ends(id)
		is = end != 0 && end <= m.meta(4)
	})
	return is
}

// T4, T5, T6: rights and ends below a cap; quotas; and what is left when all is swept.
func TestSwept(t *testing.T) {
	for seed := range int64(8) {
		p := newPlay(200+seed, 25)
		d := newDisk(t, 640)
		b, _ := broker.Boot(d)
		m := newModel()
		for i := range 500 {
			x := p.deed()
			x.model(m)
			p.learn(x, x.do(t, b))
			if i%50 == 0 {
				sound(t, b)
				noWaste(t, d)
			}
		}
		for steps := 0; ; steps++ {
			n, e := b.Idle()
			if e != api.OK || steps > 200 {
				t.Fatal(n, e)
			}
			if n == 0 && steps > 50 {
				break
			}
		}
		sound(t, b)
		noWaste(t, d)
		all, _ := b.All()
		for _, entry := range all {
			kind, _, id := space.Split(entry.Key)
			if kind == space.Intent || kind == space.Stack {
				t.Fatal("an intent is left", seed)
			}
			if kind == space.Cap {
				after := &model{kv: map[uint64]string{}}
				for _, entry := range all {
					after.kv[entry.Key] = entry.Value
				}
				if e := after.attempt(func() { after.live(id) }); e != api.OK {
					t.Fatal("a cap is left that is dead", seed, id, e)
				}
			}
		}
	}
}

// sound looks at rights, ends and quotas.
func sound(t *testing.T, b *broker.Broker) {
	t.Helper()
	all, e := b.All()
	if e != api.OK {
		t.Fatal(e)
	}
	m := newModel()
	for _, entry := range all {
		m.kv[entry.Key] = entry.Value
	}
	have := map[int]int{}
	for _, id := range m.under(1, 0) {
		c := m.cap(id)
		have[c.owner]++
		if c.parent == 0 {
			continue
		}
		above := m.cap(c.parent)
		end, last := m.ends(id), m.ends(above.id)
		if c.rights&^above.rights != 0 || last != 0 && (end == 0 || end > last) {
			t.Fatal("more than its parent", c, above)
		}
	}
	for _, id := range m.under(3, 0) {
		if o := m.principal(id); o.have != have[id] || o.have > o.limit {
			t.Fatal(o, have[id])
		}
	}
}

// T1: with no room a request answers ErrFull, and nothing has changed.
func TestFull(t *testing.T) {
	full := 0
	for sectors := 8; sectors < 40; sectors += 4 {
		p := newPlay(int64(sectors), 100)
		d := newDisk(t, sectors)
		b, _ := broker.Boot(d)
		m := newModel()
		for i := range 400 {
			x := p.deed()
			was, e := b.All()
			if e != api.OK {
				t.Fatal(e)
			}
			draws := b.Draws()
			o := x.do(t, b)
			if o.code != api.ErrFull && o.e != api.ErrFull {
				if want := x.model(m); o != want {
					t.Fatalf("%d sectors, deed %d: %+v: %+v, not %+v", sectors, i, x, o, want)
				}
				p.learn(x, o)
				continue
			}
			full++
			if all, e := b.All(); e != api.OK || !slices.Equal(all, was) || b.Draws() != draws {
				t.Fatalf("%d sectors, deed %d: changed by ErrFull", sectors, i)
			}
			if x.kind == 'f' && !proto.Mutates(x.r) {
				t.Fatalf("%d sectors, deed %d: what only looks needs no room", sectors, i)
			}
		}
		noWaste(t, d)
	}
	if full == 0 {
		t.Error("never full")
	}
}

// The examples of the whole.
func TestExamples(t *testing.T) {
	c := boot(t, newDisk(t, 100))
	c.draws(1, 30)
	c.asks(proto.Register{Name: "Ann", Limit: 10}, api.OK)
	c.asks(proto.Hello{Name: "Ann"}, api.OK)
	c.asks(proto.Rotate{}, api.OK)
	h := c.asks(proto.Mint{Object: 3, Rights: 7}, api.OK)
	if len(h) != 29 {
		t.Error(len(h))
	}
	kid := c.asks(proto.Derive{Handle: h, Name: "ann", Rights: 3}, api.OK)
	c.asks(proto.Invoke{Handle: kid, Right: 'c'}, api.ErrRights)
	c.asks(proto.Invoke{Handle: h, Right: 'c'}, api.OK)
	c.asks(proto.Revoke{Handle: h}, api.OK)
	c.asks(proto.Validate{Handle: kid}, api.ErrRevoked)
	c.asks(proto.Validate{Handle: h}, api.OK)
	mint := proto.Mint{Object: 4, Rights: 1}
	for writes := 0; ; writes++ {
		d := newDisk(t, 100)
		c := boot(t, d)
		c.draws(1, 30)
		c.asks(proto.Register{Name: "Ann", Limit: 10}, api.OK)
		c.asks(proto.Hello{Name: "Ann"}, api.OK)
		c.asks(proto.Rotate{}, api.OK)
		d.Fuse(writes)
		_, e := c.b.Feed(c.session, bytes(t, 77, mint))
		d.Crash([]int{1, 0, 1, 0, 1})
		c = boot(t, d)
		c.draws(40, 30)
		c.asks(proto.Hello{Name: "Ann"}, api.OK)
		c.again(77, mint, api.OK)
		if body := c.asks(proto.Quota{}, api.OK); body != "\x00\x0a\x00\x01" {
			t.Errorf("%d writes: %x", writes, body)
		}
		if e == api.OK {
			break
		}
		if e != api.ErrDown {
			t.Fatal(fmt.Sprint(writes), e)
		}
	}
}
