package broker_test

import (
	"cmp"
	"crypto/hmac"
	"crypto/sha256"
	"encoding/binary"
	"maps"
	"slices"
	"strings"

	"bailiwick/api"
	"bailiwick/proto"
)

// model is what the chapters say of a broker, with a map that is never full: told anew, without any layer of the program.
type model struct {
	kv    map[uint64]string
	draws []uint64
	owner map[int]int // of sessions
}

func newModel() *model { return &model{kv: map[uint64]string{}, owner: map[int]int{}} }

// fault is an error that ends a request under way.
type fault api.Errno

func fail(e api.Errno) { panic(fault(e)) }

// attempt does something whole, or not at all.
func (m *model) attempt(do func()) (e api.Errno) {
	was := maps.Clone(m.kv)
	defer func() {
		if r := recover(); r != nil {
			f, is := r.(fault)
			if !is {
				panic(r)
			}
			m.kv, e = was, api.Errno(f)
		}
	}()
	do()
	return api.OK
}

func mkey(kind, a, b int) uint64 { return uint64(kind)<<60 | uint64(a)<<32 | uint64(b) }

func be(n uint64, size int) string {
	var b [8]byte
	binary.BigEndian.PutUint64(b[:], n)
	return string(b[8-size:])
}

func num(s string) int {
	n := 0
	for _, c := range []byte(s) {
		n = n<<8 | int(c)
	}
	return n
}

// under tells the second numbers of the keys of a kind and a first number, rising.
func (m *model) under(kind, a int) []int {
	var list []int
	for k := range m.kv {
		if k>>32 == mkey(kind, a, 0)>>32 {
			list = append(list, int(k&0xffffffff))
		}
	}
	slices.Sort(list)
	return list
}

func (m *model) all() []api.Entry {
	var list []api.Entry
	for k, v := range m.kv {
		list = append(list, api.Entry{Key: k, Value: v})
	}
	slices.SortFunc(list, func(x, y api.Entry) int { return cmp.Compare(x.Key, y.Key) })
	return list
}

func (m *model) meta(n int) int { return num(m.kv[mkey(9, 0, n)]) }

func (m *model) setMeta(n, v, size int) { m.kv[mkey(9, 0, n)] = be(uint64(v), size) }

func (m *model) give(meta int) int {
	n := m.meta(meta) + 1
	m.setMeta(meta, n, 3)
	return n
}

// A cap's value: parent 3, object 3, owner 3, rights 2, badge 4, depth 1, expiry 4, cut 3, revoked 1.
type mcap struct{ id, parent, object, owner, rights, badge, depth, expiry, cut, revoked int }

func (m *model) cap(id int) mcap {
	s, is := m.kv[mkey(1, 0, id)]
	if !is {
		fail(api.ErrNone)
	}
	return mcap{id, num(s[:3]), num(s[3:6]), num(s[6:9]), num(s[9:11]), num(s[11:15]), num(s[15:16]), num(s[16:20]), num(s[20:23]), num(s[23:])}
}

func (m *model) putCap(c mcap) {
	v := ""
	for _, f := range [][2]int{{c.parent, 3}, {c.object, 3}, {c.owner, 3}, {c.rights, 2}, {c.badge, 4}, {c.depth, 1}, {c.expiry, 4}, {c.cut, 3}, {c.revoked, 1}} {
		v += be(uint64(f[0]), f[1])
	}
	m.kv[mkey(1, 0, c.id)] = v
}

type mowner struct {
	id, limit, have int
	name            string
}

func (m *model) principal(id int) mowner {
	s, is := m.kv[mkey(3, 0, id)]
	if !is {
		fail(api.ErrNone)
	}
	return mowner{id, num(s[:2]), num(s[2:4]), s[5:]}
}

func (m *model) putOwner(o mowner) {
	m.kv[mkey(3, 0, o.id)] = be(uint64(o.limit), 2) + be(uint64(o.have), 2) + be(uint64(len(o.name)), 1) + o.name
}

func lower(s string) string {
	return strings.Map(func(r rune) rune {
		if 'A' <= r && r <= 'Z' {
			return r + 32
		}
		return r
	}, s)
}

func (m *model) named(name string) mowner {
	for _, id := range m.under(3, 0) {
		if o := m.principal(id); o.name == lower(name) {
			return o
		}
	}
	fail(api.ErrNone)
	return mowner{}
}

// live tells a cap that counts now, or fails.
func (m *model) live(id int) mcap {
	now := m.meta(4)
	top := m.cap(id)
	revoked, expired := false, false
	for c := top; ; {
		revoked = revoked || c.revoked == 1
		expired = expired || c.expiry != 0 && c.expiry <= now
		if c.parent == 0 {
			break
		}
		above := m.cap(c.parent)
		revoked = revoked || c.id <= above.cut
		c = above
	}
	if revoked {
		fail(api.ErrRevoked)
	}
	if expired {
		fail(api.ErrExpired)
	}
	return top
}

func (m *model) ends(id int) int {
	end := 0
	for id != 0 {
		c := m.cap(id)
		if c.expiry != 0 && (end == 0 || c.expiry < end) {
			end = c.expiry
		}
		id = c.parent
	}
	return end
}

// add makes a cap for a principal.
func (m *model) add(c mcap, o mowner) int {
	if o.have == o.limit {
		fail(api.ErrQuota)
	}
	c.id, c.owner = m.give(1), o.id
	o.have++
	m.putOwner(o)
	m.putCap(c)
	if c.expiry != 0 {
		m.kv[mkey(5, c.expiry, c.id)] = ""
	}
	if c.parent != 0 {
		m.kv[mkey(2, c.parent, c.id)] = ""
	}
	return c.id
}

func (m *model) remove(id int) {
	c := m.cap(id)
	o := m.principal(c.owner)
	o.have--
	m.putOwner(o)
	delete(m.kv, mkey(1, 0, id))
	delete(m.kv, mkey(2, c.parent, id))
	delete(m.kv, mkey(5, c.expiry, id))
}

func (m *model) freeSlots(id int) {
	for _, x := range m.under(4, 0) {
		if v := m.kv[mkey(4, 0, x)]; num(v[:3]) == id {
			m.kv[mkey(4, 0, x)] = be(0, 3) + be(uint64(v[3])+1, 1) + be(0, 8)
		}
	}
}

func tag(key, body string) string {
	h := hmac.New(sha256.New, []byte(key))
	h.Write([]byte(body))
	return string(h.Sum(nil)[:16])
}

// seal makes a handle; it tells how many draws were used.
func (m *model) seal(id int, used *int) string {
	if m.meta(5) == 0 {
		fail(api.ErrState)
	}
	for _, draw := range m.draws[:min(8, len(m.draws))] {
		*used++
		if x := m.open(draw); x != 0 {
			epoch := 1
			if v, is := m.kv[mkey(4, 0, x)]; is {
				epoch = int(v[3])
			}
			m.kv[mkey(4, 0, x)] = be(uint64(id), 3) + be(uint64(epoch), 1) + be(draw, 8)
			body := be(uint64(x), 2) + be(uint64(epoch), 1) + be(draw, 8) + be(uint64(m.meta(5)), 2)
			return body + tag(m.kv[mkey(9, 0, 6)], body)
		}
	}
	fail(api.ErrBusy)
	return ""
}

// open tells the least slot that can be taken with a nonce (0: the nonce is used).
func (m *model) open(nonce uint64) int {
	for _, x := range m.under(4, 0) {
		if v := m.kv[mkey(4, 0, x)]; num(v[:3]) != 0 && v[4:] == be(nonce, 8) {
			return 0
		}
	}
	for x := 1; x <= 200; x++ {
		if v, is := m.kv[mkey(4, 0, x)]; !is || num(v[:3]) == 0 && v[3] <= 15 {
			return x
		}
	}
	fail(api.ErrFull)
	return 0
}

// look tells the cap of a handle.
func (m *model) look(h string) mcap {
	x, epoch, nonce, number := num(h[:2]), num(h[2:3]), h[3:11], num(h[11:13])
	if x < 1 || x > 200 || epoch < 1 || epoch > 15 || number < 1 {
		fail(api.ErrForm)
	}
	key := ""
	switch number {
	case m.meta(5):
		key = m.kv[mkey(9, 0, 6)]
	case m.meta(5) - 1:
		key = m.kv[mkey(9, 0, 7)]
	default:
		fail(api.ErrNone)
	}
	if tag(key, h[:13]) != h[13:] {
		fail(api.ErrSum)
	}
	v, is := m.kv[mkey(4, 0, x)]
	switch {
	case !is:
		fail(api.ErrNone)
	case int(v[3]) > epoch || num(v[:3]) == 0:
		fail(api.ErrRevoked)
	case int(v[3]) != epoch || v[4:] != nonce:
		fail(api.ErrNone)
	}
	return m.live(num(v[:3]))
}

// begin revokes.
func (m *model) begin(c mcap, self bool) {
	which := 0
	if self {
		c.revoked, which = 1, 1
	} else {
		c.cut = m.meta(1)
	}
	m.putCap(c)
	n := m.give(3)
	m.kv[mkey(6, 0, n)] = be(uint64(c.id), 3) + be(uint64(which), 1)
	m.kv[mkey(7, n, 0)] = be(uint64(c.id), 3)
}

// step sweeps up to four caps.
func (m *model) step() int {
	swept := 0
	for swept < 4 && len(m.under(6, 0)) > 0 {
		n := m.under(6, 0)[0]
		self := m.kv[mkey(6, 0, n)][3] == 1
		depth := slices.Max(m.under(7, n))
		top := num(m.kv[mkey(7, n, depth)])
		off := func() {
			delete(m.kv, mkey(7, n, depth))
			if depth == 0 {
				delete(m.kv, mkey(6, 0, n))
			}
		}
		if _, is := m.kv[mkey(1, 0, top)]; !is {
			if depth > 0 {
				delete(m.kv, mkey(2, num(m.kv[mkey(7, n, depth-1)]), top))
			}
			off()
			continue
		}
		stays := depth == 0 && !self
		kids := m.under(2, top)
		if stays {
			kids = slices.DeleteFunc(kids, func(kid int) bool { return kid > m.cap(top).cut })
		}
		switch {
		case len(kids) > 0:
			m.kv[mkey(7, n, depth+1)] = be(uint64(kids[0]), 3)
		case stays:
			off()
		default:
			m.freeSlots(top)
			m.remove(top)
			off()
			swept++
		}
	}
	return swept
}

func (m *model) idle() int {
	due := 0
	for range 4 {
		var first uint64
		for k := range m.kv {
			if k>>60 == 5 && int(k>>32&0xfffffff) <= m.meta(4) && (first == 0 || k < first) {
				first = k
			}
		}
		if first == 0 {
			break
		}
		due++
		if c := m.cap(int(first & 0xffffffff)); c.revoked == 0 {
			m.begin(c, true)
		}
		delete(m.kv, first)
	}
	return m.step()
}

func (m *model) tick(n int) api.Errno {
	return m.attempt(func() {
		if n < 0 {
			fail(api.ErrArg)
		}
		if n > api.MaxClock-m.meta(4) {
			fail(api.ErrClock)
		}
		m.setMeta(4, m.meta(4)+n, 4)
	})
}

// do does a request, and tells its body.
func (m *model) do(owner int, r any, used *int) string {
	switch x := r.(type) {
	case proto.Register:
		for _, id := range m.under(3, 0) {
			if m.principal(id).name == lower(x.Name) {
				fail(api.ErrExists)
			}
		}
		id := m.give(2)
		m.putOwner(mowner{id, x.Limit, 0, lower(x.Name)})
		return be(uint64(id), 3)
	case proto.Mint:
		c := mcap{object: x.Object, rights: x.Rights, badge: x.Badge, expiry: x.Expiry, depth: 1}
		return m.seal(m.add(c, m.principal(owner)), used)
	case proto.Derive:
		above := m.look(x.Handle)
		o := m.named(x.Name)
		m.fits(x.Rights, above)
		c := mcap{parent: above.id, object: above.object, rights: x.Rights, badge: x.Badge, expiry: x.Expiry, depth: above.depth + 1}
		return m.seal(m.add(c, o), used)
	case proto.Renew:
		c := m.look(x.Handle)
		if x.Expiry != 0 && x.Expiry <= m.meta(4) {
			fail(api.ErrArg)
		}
		delete(m.kv, mkey(5, c.expiry, c.id))
		c.expiry = x.Expiry
		m.putCap(c)
		if x.Expiry != 0 {
			m.kv[mkey(5, x.Expiry, c.id)] = ""
		}
	case proto.Validate:
		c := m.look(x.Handle)
		return be(uint64(c.rights), 2) + be(uint64(c.badge), 4) + be(uint64(c.depth), 1) + be(uint64(m.ends(c.id)), 4) + be(uint64(c.object), 3)
	case proto.Invoke:
		c := m.look(x.Handle)
		if c.rights&(1<<(x.Right-'a')) == 0 {
			fail(api.ErrRights)
		}
		return be(uint64(c.object), 3) + be(uint64(c.badge), 4)
	case proto.Revoke:
		c := m.look(x.Handle)
		m.begin(c, x.Self)
		if x.Self {
			delete(m.kv, mkey(5, c.expiry, c.id))
		}
	case proto.Delete:
		c := m.look(x.Handle)
		if len(m.under(2, c.id)) > 0 {
			fail(api.ErrState)
		}
		m.freeSlots(c.id)
		m.remove(c.id)
	case proto.Move:
		m.move(m.look(x.Handle), m.look(x.To))
	case proto.List:
		body := ""
		for _, kid := range m.under(2, m.look(x.Handle).id) {
			if kid >= x.From && len(body) < 3*x.Most {
				body += be(uint64(kid), 3)
			}
		}
		return body
	case proto.Quota:
		o := m.principal(owner)
		return be(uint64(o.limit), 2) + be(uint64(o.have), 2)
	case proto.Rotate:
		return m.rotate(used)
	}
	return ""
}

func (m *model) fits(rights int, above mcap) {
	if rights&^above.rights != 0 {
		fail(api.ErrRights)
	}
	if above.depth == 8 {
		fail(api.ErrDepth)
	}
}

func (m *model) move(c, to mcap) {
	if len(m.under(2, c.id)) > 0 || c.parent == 0 || c.id == to.id || c.id <= to.cut {
		fail(api.ErrState)
	}
	m.fits(c.rights, to)
	delete(m.kv, mkey(2, c.parent, c.id))
	c.parent, c.object, c.depth = to.id, to.object, to.depth+1
	m.putCap(c)
	m.kv[mkey(2, to.id, c.id)] = ""
}

func (m *model) rotate(used *int) string {
	if len(m.draws) < 4 {
		fail(api.ErrBusy)
	}
	*used = 4
	secret := ""
	for _, draw := range m.draws[:4] {
		secret += be(draw, 8)
	}
	n := m.give(5)
	m.kv[mkey(9, 0, 7)] = m.kv[mkey(9, 0, 6)]
	m.kv[mkey(9, 0, 6)] = secret
	return be(uint64(n), 2)
}

// ask tells the code and the body of a request of a session.
func (m *model) ask(session, id int, r any) (code api.Errno, body string) {
	owner := m.owner[session]
	if hello, is := r.(proto.Hello); is {
		return m.attempt(func() { m.owner[session] = m.named(hello.Name).id }), ""
	}
	if _, is := r.(proto.Register); owner == 0 && !is {
		return api.ErrState, ""
	}
	used := 0
	switch r.(type) {
	case proto.Validate, proto.Invoke, proto.List, proto.Quota:
		code = m.attempt(func() { body = m.do(owner, r, &used) })
		return code, body
	}
	if reply, is := m.kv[mkey(8, owner, id)]; is {
		return 0, reply[1:]
	}
	code = m.attempt(func() { body = m.do(owner, r, &used) })
	if code == api.OK {
		m.kv[mkey(8, owner, id)] = "\x00" + body
		if ids := m.under(8, owner); len(ids) > 8 {
			delete(m.kv, mkey(8, owner, ids[0]))
		}
	}
	if code == api.OK || code == api.ErrBusy {
		m.draws = m.draws[used:]
	}
	return code, body
}
