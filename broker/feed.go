package broker

import (
	"slices"

	"bailiwick/api"
	"bailiwick/capt"
	"bailiwick/desk"
	"bailiwick/frame"
	"bailiwick/lease"
	"bailiwick/proto"
	"bailiwick/space"
	"bailiwick/txn"
	"bailiwick/within"
)

const codeSize = 1 // of a reply that is kept; behind it stands the body

// answer is what a request comes to.
type answer struct {
	code api.Errno
	body string
}

// framed makes the frame of an answer to the request of a number.
func (a answer) framed(id int) string {
	reply, _ := proto.Reply(id, a.code, a.body)
	f, _ := frame.Put(reply)
	return f
}

// Feed takes bytes of a client, and answers the requests that are whole.
func (b *Broker) Feed(session int, bytes string) ([]string, api.Errno) {
	if !b.Up() {
		return nil, api.ErrDown
	}
	s, is := b.sessions[session]
	if !is {
		return nil, api.ErrNone
	}
	s.reader.Add(bytes)
	var answers []string
	for {
		text, whole, e := s.reader.Next()
		if e == api.ErrLong {
			b.Reset(session)
			return append(answers, answer{code: e}.framed(0)), api.OK
		}
		if !whole {
			return answers, api.OK
		}
		told := b.answer(s, text)
		if !b.Up() {
			return answers, api.ErrDown
		}
		answers = append(answers, told)
	}
}

// answer tells the frame that answers a text.
func (b *Broker) answer(s *session, text string) string {
	id, r, e := proto.Decode(text)
	if e != api.OK {
		return answer{code: e}.framed(0)
	}
	return b.ask(s, id, r).framed(id)
}

// ask does a request of a session.
func (b *Broker) ask(s *session, id int, r any) answer {
	if hello, is := r.(proto.Hello); is {
		return answer{code: b.hello(s, hello.Name)}
	}
	if _, is := r.(proto.Register); !is && s.owner == 0 {
		return answer{code: api.ErrState}
	}
	var a answer
	e := b.try(func(t *txn.Txn) (e api.Errno) {
		if proto.Mutates(r) {
			a, e = b.change(t, s.owner, id, r)
		} else {
			a.body, _, e = b.do(t, s.owner, r)
		}
		return e
	})
	if e != api.OK {
		return answer{code: e}
	}
	return a
}

// hello makes the principal of that name the session's.
func (b *Broker) hello(s *session, name string) api.Errno {
	return b.try(func(t *txn.Txn) api.Errno {
		o, e := capt.Named(t, name)
		if e == api.OK {
			s.owner = o.ID
		}
		return e
	})
}

// do does a request now, with all draws that there are.
func (b *Broker) do(t *txn.Txn, owner int, r any) (body string, used int, e api.Errno) {
	now, e := lease.Clock(t)
	if e != api.OK {
		return "", 0, e
	}
	return desk.Do(t, owner, now, r, b.draws)
}

// change does a request that may change something, once.
func (b *Broker) change(t *txn.Txn, owner, id int, r any) (answer, api.Errno) {
	if a, is := kept(t, owner, id); is || t.Err() != api.OK {
		return a, t.Err()
	}
	body, used, e := b.do(t, owner, r)
	if e == api.OK {
		keep(t, owner, id, answer{body: body})
		e = t.Commit()
	}
	if e == api.OK || e == api.ErrBusy {
		b.draws = slices.Delete(b.draws, 0, used)
	}
	return answer{body: body}, e
}

// replyKey is the key of the reply to a request.
func replyKey(owner, id int) uint64 {
	key, _ := space.Key(space.Reply, owner, id)
	return key
}

// kept tells the reply that is kept, if there is one.
func kept(t *txn.Txn, owner, id int) (answer, bool) {
	value, is := t.Get(replyKey(owner, id))
	if !is {
		return answer{}, false
	}
	if len(value) < codeSize {
		return answer{code: api.ErrForm}, true
	}
	return answer{api.Errno(value[0]), value[codeSize:]}, true
}

// keep keeps a reply; of too many the one of the least number goes.
func keep(t *txn.Txn, owner, id int, a answer) {
	t.Put(replyKey(owner, id), string([]byte{byte(a.code)})+a.body)
	var ids []int
	for n := range within.Numbers(t, space.Reply, owner, 0) {
		ids = append(ids, n)
	}
	if len(ids) > api.Window {
		t.Delete(replyKey(owner, ids[0]))
	}
}
