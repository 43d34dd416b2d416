package node

import (
	"strings"

	"bailiwick/api"
	"bailiwick/num"
)

// The byte that a node begins with.
const (
	leafByte   = "\x01"
	branchByte = "\x02"
)

// number writes a number that has room in so many bytes.
func number(n uint64, size int) string {
	s, _ := num.Put(n, size)
	return s
}

// Encode writes a node that is right.
func Encode(n Node) (string, api.Errno) {
	if !Right(n) {
		return "", api.ErrArg
	}
	var b strings.Builder
	if n.Leaf {
		b.WriteString(leafByte)
	} else {
		b.WriteString(branchByte + number(uint64(n.Kids[0]), kidSize))
	}
	for i, key := range n.Keys {
		b.WriteString(number(key, keySize))
		if n.Leaf {
			value, _ := num.Text(n.Vals[i])
			b.WriteString(value)
		} else {
			b.WriteString(number(uint64(n.Kids[i+1]), kidSize))
		}
	}
	return b.String(), api.OK
}

// reader takes numbers and texts off its bytes, as long as there are any.
type reader struct {
	left string
	bad  bool
}

func (r *reader) number(size int) uint64 {
	n, rest, e := num.Take(r.left, size)
	r.left, r.bad = rest, r.bad || e != api.OK
	return n
}

func (r *reader) text() string {
	s, rest, e := num.TakeText(r.left)
	r.left, r.bad = rest, r.bad || e != api.OK
	return s
}

func (r *reader) leaf() Node {
	n := Node{Leaf: true}
	for r.left != "" {
		n.Keys = append(n.Keys, r.number(keySize))
		n.Vals = append(n.Vals, r.text())
	}
	return n
}

func (r *reader) branch() Node {
	n := Node{Kids: []int{int(r.number(kidSize))}}
	for r.left != "" {
		n.Keys = append(n.Keys, r.number(keySize))
		n.Kids = append(n.Kids, int(r.number(kidSize)))
	}
	return n
}

// Decode reads what Encode wrote.
func Decode(s string) (Node, api.Errno) {
	if len(s) == 0 || len(s) > api.MaxText {
		return Node{}, api.ErrForm
	}
	r := reader{left: s[1:]}
	var n Node
	switch s[:1] {
	case leafByte:
		n = r.leaf()
	case branchByte:
		n = r.branch()
	default:
		return Node{}, api.ErrForm
	}
	if r.bad || !Right(n) {
		return Node{}, api.ErrForm
	}
	return n, api.OK
}
