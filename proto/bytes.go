package proto

import (
	"bailiwick/api"
	"bailiwick/num"
	"bailiwick/rights"
)

// How many bytes a number takes.
const (
	headSize  = 1 // the version, the op, a code, a yes or no, how many
	askSize   = 4 // the request's number
	limitSize = 2
	idSize    = 3
	badgeSize = 4
	clockSize = 4
)

const (
	version  = "\x01"
	lastAsk  = 1<<32 - 1
	lastCode = 255
	mostBody = 100
)

// number writes a number that has room in so many bytes.
func number(n, size int) string {
	s, _ := num.Put(uint64(n), size)
	return s
}

// text writes a text that is not too long.
func text(s string) string {
	b, _ := num.Text(s)
	return b
}

func letters(mask int) string {
	s, _ := rights.Text(mask)
	return text(s)
}

func yes(b bool) string {
	if b {
		return "\x01"
	}
	return "\x00"
}

func (r Hello) fields() string    { return text(r.Name) }
func (r Register) fields() string { return text(r.Name) + number(r.Limit, limitSize) }
func (r Mint) fields() string {
	return number(r.Object, idSize) + letters(r.Rights) + number(r.Badge, badgeSize) + number(r.Expiry, clockSize)
}
func (r Derive) fields() string {
	return r.Handle + text(r.Name) + letters(r.Rights) + number(r.Badge, badgeSize) + number(r.Expiry, clockSize)
}
func (r Renew) fields() string    { return r.Handle + number(r.Expiry, clockSize) }
func (r Validate) fields() string { return r.Handle }
func (r Invoke) fields() string   { return r.Handle + text(string(r.Right)) }
func (r Revoke) fields() string   { return r.Handle + yes(r.Self) }
func (r Delete) fields() string   { return r.Handle }
func (r Move) fields() string     { return r.Handle + r.To }
func (r List) fields() string {
	return r.Handle + number(r.From, idSize) + number(r.Most, headSize)
}
func (Quota) fields() string  { return "" }
func (Rotate) fields() string { return "" }

func askRight(id int) bool { return 0 <= id && id <= lastAsk }

// Encode writes a request and its number.
func Encode(id int, r any) (string, api.Errno) {
	x, ok := proper(r)
	if !ok || !askRight(id) {
		return "", api.ErrArg
	}
	return version + number(x.Op(), headSize) + number(id, askSize) + x.fields(), api.OK
}

// reader takes fields off a request. What is not there is 0, or nothing.
type reader struct{ left string }

func (f *reader) number(size int) int {
	n, rest, _ := num.Take(f.left, size)
	f.left = rest
	return int(n)
}

func (f *reader) text() string {
	s, rest, _ := num.TakeText(f.left)
	f.left = rest
	return s
}

func (f *reader) letters() int {
	mask, _ := rights.Parse(f.text())
	return mask
}

// letter is the first rune of a text.
func (f *reader) letter() rune {
	for _, r := range f.text() {
		return r
	}
	return 0
}

func (f *reader) handle() string {
	n := min(handleSize, len(f.left))
	h := f.left[:n]
	f.left = f.left[n:]
	return h
}

// request takes the fields of a request of that place.
func (f *reader) request(op int) any {
	switch op {
	case opHello:
		return Hello{Name: f.text()}
	case opRegister:
		return Register{Name: f.text(), Limit: f.number(limitSize)}
	case opMint:
		return Mint{Object: f.number(idSize), Rights: f.letters(), Badge: f.number(badgeSize), Expiry: f.number(clockSize)}
	case opDerive:
		return Derive{Handle: f.handle(), Name: f.text(), Rights: f.letters(), Badge: f.number(badgeSize), Expiry: f.number(clockSize)}
	case opRenew:
		return Renew{Handle: f.handle(), Expiry: f.number(clockSize)}
	case opValidate:
		return Validate{Handle: f.handle()}
	case opInvoke:
		return Invoke{Handle: f.handle(), Right: f.letter()}
	case opRevoke:
		return Revoke{Handle: f.handle(), Self: f.number(headSize) == 1}
	case opDelete:
		return Delete{Handle: f.handle()}
	case opMove:
		return Move{Handle: f.handle(), To: f.handle()}
	case opList:
		return List{Handle: f.handle(), From: f.number(idSize), Most: f.number(headSize)}
	case opQuota:
		return Quota{}
	case opRotate:
		return Rotate{}
	}
	return nil
}

// Decode reads what Encode wrote: whatever was misread does not come out so again.
func Decode(b string) (id int, r any, e api.Errno) {
	f := reader{b}
	f.number(headSize)
	op := f.number(headSize)
	id = f.number(askSize)
	r = f.request(op)
	if again, e := Encode(id, r); e != api.OK || again != b {
		return 0, nil, api.ErrForm
	}
	return id, r, api.OK
}

// Reply writes an answer to the request of a number.
func Reply(id int, code api.Errno, body string) (string, api.Errno) {
	if !askRight(id) || code < 0 || code > lastCode || len(body) > mostBody {
		return "", api.ErrArg
	}
	return version + number(id, askSize) + number(int(code), headSize) + text(body), api.OK
}

// TakeReply reads what Reply wrote.
func TakeReply(b string) (id int, code api.Errno, body string, e api.Errno) {
	f := reader{b}
	f.number(headSize)
	id = f.number(askSize)
	code = api.Errno(f.number(headSize))
	body = f.text()
	if again, e := Reply(id, code, body); e != api.OK || again != b {
		return 0, 0, "", api.ErrForm
	}
	return id, code, body, api.OK
}
