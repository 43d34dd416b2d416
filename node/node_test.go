package node_test

import (
	"math/rand"
	"reflect"
	"strings"
	"testing"

	"bailiwick/api"
	"bailiwick/node"
)

func leaf(keys []uint64, vals ...string) node.Node {
	return node.Node{Leaf: true, Keys: keys, Vals: vals}
}

func branch(keys []uint64, kids ...int) node.Node { return node.Node{Keys: keys, Kids: kids} }

func list(keys ...uint64) []uint64 { return keys }

// leafOf is a leaf of n keys with values of so many bytes.
func leafOf(n, bytes int) node.Node {
	l := node.Node{Leaf: true}
	for i := range n {
		l.Keys = append(l.Keys, uint64(10*i))
		l.Vals = append(l.Vals, strings.Repeat("v", bytes))
	}
	return l
}

// branchOf is a branch of n keys.
func branchOf(n int) node.Node {
	b := node.Node{Kids: []int{2}}
	for i := range n {
		b.Keys = append(b.Keys, uint64(10*i))
		b.Kids = append(b.Kids, i+3)
	}
	return b
}

func same(t *testing.T, what string, got, want node.Node) {
	t.Helper()
	if got.Leaf != want.Leaf || !sameList(got.Keys, want.Keys) || !sameList(got.Vals, want.Vals) || !sameList(got.Kids, want.Kids) {
		t.Errorf("%s: %v, not %v", what, got, want)
	}
}

func sameList[T any](a, b []T) bool {
	return len(a) == 0 && len(b) == 0 || reflect.DeepEqual(a, b)
}

var broken = []node.Node{
	{},
	{Leaf: true, Keys: list(1)},
	{Leaf: true, Vals: []string{"a"}},
	{Leaf: true, Keys: list(1, 2), Vals: []string{"a"}},
	{Leaf: true, Keys: list(1), Vals: []string{"a"}, Kids: []int{2}},
	{Keys: list(1)},
	{Keys: list(1), Kids: []int{2}},
	{Keys: list(1), Kids: []int{2, 3, 4}},
	{Keys: list(1), Kids: []int{2, 3}, Vals: []string{"a"}},
}

// P10.1: which nodes are right.
func TestRight(t *testing.T) {
	right := []node.Node{
		leaf(list(0), ""), leaf(list(1, 2), "a", strings.Repeat("x", 40)), leaf(list(1<<64-1), "a"),
		branch(nil, 2), branch(list(5), 2, 639), branch(list(5), 2, 2), leafOf(4, 40), branchOf(23),
	}
	wrong := []node.Node{
		leaf(nil), leaf(list(1, 1), "", ""), leaf(list(2, 1), "", ""), leaf(list(1), strings.Repeat("x", 41)),
		branch(list(5), 1, 2), branch(list(5), 2, 640), branch(list(5), 2, -1), branch(list(5, 5), 2, 3, 4), branch(list(6, 5), 2, 3, 4),
		leafOf(5, 40), branchOf(24), leafOf(27, 0),
	}
	for i, n := range right {
		if !node.Right(n) {
			t.Errorf("right %d is not", i)
		}
	}
	for i, n := range append(wrong, broken...) {
		if node.Right(n) {
			t.Errorf("wrong %d is right", i)
		}
		if s, e := node.Encode(n); s != "" || e != api.ErrArg {
			t.Errorf("Encode of wrong %d: %d", i, e)
		}
	}
	if !node.Right(leaf(list(1, 2, 3, 4, 5), strings.Repeat("x", 40), strings.Repeat("x", 40), strings.Repeat("x", 40), strings.Repeat("x", 40), strings.Repeat("x", 34))) {
		t.Error("a leaf of 240 bytes")
	}
	if node.Right(leaf(list(1, 2, 3, 4, 5), strings.Repeat("x", 40), strings.Repeat("x", 40), strings.Repeat("x", 40), strings.Repeat("x", 40), strings.Repeat("x", 35))) {
		t.Error("a leaf of 241 bytes")
	}
}

// P10.1: how many bytes a node takes.
func TestSize(t *testing.T) {
	for _, c := range []struct {
		n    node.Node
		want int
	}{
		{leaf(list(1), "abc"), 13}, {leaf(nil), 1}, {leaf(list(1, 2), "", "x"), 20}, {branch(nil, 2), 3}, {branch(list(1), 2, 3), 13}, {branchOf(23), 233},
	} {
		if got := node.Size(c.n); got != c.want {
			t.Errorf("Size(%v) = %d", c.n, got)
		}
	}
}

// P10.1: the bytes of nodes.
func TestEncode(t *testing.T) {
	for _, c := range []struct {
		n    node.Node
		want string
	}{
		{leaf(list(258), "ab"), "\x01\x00\x00\x00\x00\x00\x00\x01\x02\x02ab"},
		{leaf(list(0, 1<<64-1), "", "z"), "\x01\x00\x00\x00\x00\x00\x00\x00\x00\x00\xff\xff\xff\xff\xff\xff\xff\xff\x01z"},
		{branch(nil, 258), "\x02\x01\x02"},
		{branch(list(7), 2, 3), "\x02\x00\x02\x00\x00\x00\x00\x00\x00\x00\x07\x00\x03"},
	} {
		if got, e := node.Encode(c.n); got != c.want || e != api.OK {
			t.Errorf("Encode(%v) = %x, %d", c.n, got, e)
		}
		got, e := node.Decode(c.want)
		if e != api.OK {
			t.Errorf("Decode(%x): %d", c.want, e)
		}
		same(t, "Decode", got, c.n)
	}
}

// P10.1: bytes that no node has.
func TestDecodeWrong(t *testing.T) {
	good, _ := node.Encode(leaf(list(1, 2), "a", "b"))
	twig, _ := node.Encode(branch(list(1), 2, 3))
	for _, s := range []string{
		"", "\x00", "\x01", "\x02", "\x02\x00", "\x03" + good[1:], good[:len(good)-1], good + "\x00", twig[:len(twig)-1], twig + "\x00",
		"\x02\x00\x01", "\x02\x02\x80", "\x02" + good[1:], "\x01" + twig[1:],
		"\x01" + good[11:] + good[1:11], good[:11] + good[1:11],
		"\x01" + strings.Repeat("\x00", 8) + "\x29" + strings.Repeat("x", 41),
		strings.Repeat("\x01", 241),
	} {
		if n, e := node.Decode(s); e != api.ErrForm || !reflect.DeepEqual(n, node.Node{}) {
			t.Errorf("Decode(%x) = %v, %d", s, n, e)
		}
	}
	for _, n := range []node.Node{leafOf(4, 40), branchOf(23)} {
		s, _ := node.Encode(n)
		if got, e := node.Decode(s + "x"); e != api.ErrForm {
			t.Error(got, e)
		}
	}
}

// P10.2: the places of keys.
func TestFind(t *testing.T) {
	l, b := leaf(list(10, 20, 30), "a", "b", "c"), branch(list(10, 20, 30), 2, 3, 4, 5)
	for _, c := range []struct {
		key         uint64
		inLeaf      int
		is          bool
		inBranchKid int
	}{
		{0, 0, false, 0}, {9, 0, false, 0}, {10, 0, true, 1}, {11, 1, false, 1}, {20, 1, true, 2}, {29, 2, false, 2}, {30, 2, true, 3}, {31, 3, false, 3}, {1<<64 - 1, 3, false, 3},
	} {
		if i, ok := node.Find(l, c.key); i != c.inLeaf || ok != c.is {
			t.Errorf("leaf %d: %d %v", c.key, i, ok)
		}
		if i, ok := node.Find(b, c.key); i != c.inBranchKid || !ok {
			t.Errorf("branch %d: %d %v", c.key, i, ok)
		}
	}
	if i, ok := node.Find(leaf(nil), 5); i != 0 || ok {
		t.Error(i, ok)
	}
	if i, ok := node.Find(branch(nil, 2), 5); i != 0 || !ok {
		t.Error(i, ok)
	}
}

// P10.2: nodes with more and with less.
func TestChange(t *testing.T) {
	l, b := leaf(list(10, 20), "a", "b"), branch(list(10, 20), 2, 3, 4)
	same(t, "Put ahead", node.Put(l, 5, "x"), leaf(list(5, 10, 20), "x", "a", "b"))
	same(t, "Put between", node.Put(l, 15, "x"), leaf(list(10, 15, 20), "a", "x", "b"))
	same(t, "Put behind", node.Put(l, 25, "x"), leaf(list(10, 20, 25), "a", "b", "x"))
	same(t, "Put in place", node.Put(l, 20, "x"), leaf(list(10, 20), "a", "x"))
	same(t, "Put into nothing", node.Put(leaf(nil), 20, "x"), leaf(list(20), "x"))
	same(t, "Without 0", node.Without(l, 0), leaf(list(20), "b"))
	same(t, "Without 1", node.Without(l, 1), leaf(list(10), "a"))
	same(t, "Without the last one", node.Without(leaf(list(1), "a"), 0), leaf(nil))
	same(t, "Hang 0", node.Hang(b, 0, 5, 9), branch(list(5, 10, 20), 2, 9, 3, 4))
	same(t, "Hang 1", node.Hang(b, 1, 15, 9), branch(list(10, 15, 20), 2, 3, 9, 4))
	same(t, "Hang 2", node.Hang(b, 2, 25, 9), branch(list(10, 20, 25), 2, 3, 4, 9))
	same(t, "Hang on one kid", node.Hang(branch(nil, 2), 0, 5, 9), branch(list(5), 2, 9))
	same(t, "Unhang 0", node.Unhang(b, 0), branch(list(20), 2, 4))
	same(t, "Unhang 1", node.Unhang(b, 1), branch(list(10), 2, 3))
	same(t, "Unhang the last one", node.Unhang(branch(list(5), 2, 9), 0), branch(nil, 2))
	same(t, "the leaf", l, leaf(list(10, 20), "a", "b"))
	same(t, "the branch", b, branch(list(10, 20), 2, 3, 4))
}

// P10.2: places that there are not, and the other kind.
func TestNoChange(t *testing.T) {
	l, b := leaf(list(10, 20), "a", "b"), branch(list(10, 20), 2, 3, 4)
	same(t, "Put", node.Put(b, 5, "x"), b)
	same(t, "Hang", node.Hang(l, 0, 5, 9), l)
	for _, i := range []int{-1, 2, 3, -1 << 63, 1<<63 - 1} {
		same(t, "Without", node.Without(l, i), l)
		same(t, "Without", node.Without(b, i), b)
		same(t, "Unhang", node.Unhang(l, i), l)
		same(t, "Unhang", node.Unhang(b, i), b)
		if i != 2 {
			same(t, "Hang", node.Hang(b, i, 5, 9), b)
		}
	}
	same(t, "Without of a branch", node.Without(b, 0), b)
	same(t, "Unhang of a leaf", node.Unhang(l, 0), l)
}

// P10.2: an answer shares nothing with the node, nor with spare room of its lists.
func TestFresh(t *testing.T) {
	keys, vals, kids := make([]uint64, 2, 9), make([]string, 2, 9), make([]int, 3, 9)
	keys[0], keys[1], kids[0], kids[1], kids[2] = 10, 20, 2, 3, 4
	l, b := node.Node{Leaf: true, Keys: keys, Vals: vals}, node.Node{Keys: keys, Kids: kids}
	for _, n := range []node.Node{
		node.Put(l, 30, "x"), node.Put(l, 20, "x"), node.Without(l, 1), node.Hang(b, 2, 30, 9), node.Hang(b, 0, 3, 9), node.Unhang(b, 1),
	} {
		for i := range n.Keys {
			n.Keys[i] = 99
		}
		for i := range n.Kids {
			n.Kids[i] = 99
		}
		for i := range n.Vals {
			n.Vals[i] = "99"
		}
		same(t, "the leaf", l, leaf(list(10, 20), "", ""))
		same(t, "the branch", b, branch(list(10, 20), 2, 3, 4))
		if keys[:3][2] != 0 || kids[:4][3] != 0 || vals[:3][2] != "" {
			t.Error("the spare room was written into")
		}
	}
	a, _, c, _ := node.Split(leafOf(6, 3))
	_ = append(a.Keys, 77)
	_ = append(a.Vals, "77")
	if c.Keys[0] == 77 || c.Vals[0] == "77" {
		t.Error("the parts share a list")
	}
}

// P10.3: where nodes are cut.
func TestSplit(t *testing.T) {
	for _, c := range []struct {
		n node.Node
		k int
	}{
		{leaf(list(1, 2), "", ""), 1},
		{leaf(list(1, 2, 3), "", "", ""), 2},          // 28: half is 14; 10, 19
		{leaf(list(1, 2, 3), "aaaaaaaaa", "", ""), 1}, // 37: 18; 19
		{leaf(list(1, 2, 3), "aaaaaaa", "", ""), 1},   // 35: 17; 17
		{leaf(list(1, 2, 3), "aaaaaa", "", ""), 2},    // 34: 17; 16, 25
		{leaf(list(1, 2), "", strings.Repeat("x", 40)), 1},
		{leaf(list(1, 2, 3), "", "", strings.Repeat("x", 40)), 2},
		{leaf(list(1, 2, 3), strings.Repeat("x", 40), "", ""), 1},
		{leafOf(5, 40), 3},    // 246: 123; 50, 99, 148
		{leafOf(27, 0), 14},   // 244: 122; 118, 127
		{branchOf(3), 1},      // 33: 16; 13, at most 1
		{branchOf(4), 2},      // 43: 21; 13, 23
		{branchOf(24), 12},    // 243: 121; 113, 123
		{branchOf(1000), 500}, // 10003: 5001; 4993, 5003
	} {
		a, mid, b, ok := node.Split(c.n)
		if !ok || mid != c.n.Keys[c.k] {
			t.Errorf("%v: %d %v", c.n, mid, ok)
			continue
		}
		if c.n.Leaf {
			same(t, "first", a, leaf(c.n.Keys[:c.k], c.n.Vals[:c.k]...))
			same(t, "second", b, leaf(c.n.Keys[c.k:], c.n.Vals[c.k:]...))
		} else {
			same(t, "first", a, branch(c.n.Keys[:c.k], c.n.Kids[:c.k+1]...))
			same(t, "second", b, branch(c.n.Keys[c.k+1:], c.n.Kids[c.k+1:]...))
		}
	}
	for _, n := range append(broken, leaf(nil), leaf(list(1), "a"), branch(nil, 2), branchOf(1), branchOf(2)) {
		if a, mid, b, ok := node.Split(n); ok || mid != 0 || !reflect.DeepEqual(a, node.Node{}) || !reflect.DeepEqual(b, node.Node{}) {
			t.Errorf("%v is split", n)
		}
	}
}

// P10.3: which nodes are joined.
func TestJoin(t *testing.T) {
	got, ok := node.Join(leaf(list(1), "a"), 99, leaf(list(2, 3), "b", "c"))
	if !ok {
		t.Error("leaves")
	}
	same(t, "leaves", got, leaf(list(1, 2, 3), "a", "b", "c"))
	got, ok = node.Join(branch(list(1), 2, 3), 7, branch(list(9), 4, 5))
	if !ok {
		t.Error("branches")
	}
	same(t, "branches", got, branch(list(1, 7, 9), 2, 3, 4, 5))
	got, ok = node.Join(branch(nil, 2), 7, branch(nil, 4))
	if !ok {
		t.Error("bare branches")
	}
	same(t, "bare branches", got, branch(list(7), 2, 4))
	got, ok = node.Join(leaf(nil), 7, leaf(list(9), "a"))
	if !ok {
		t.Error("an empty leaf")
	}
	same(t, "an empty leaf", got, leaf(list(9), "a"))
	for i, c := range []struct {
		a, b node.Node
		ok   bool
	}{
		{leaf(list(1), "a"), branch(list(1), 2, 3), false}, {branch(list(1), 2, 3), leaf(list(1), "a"), false},
		{leafOf(13, 0), leafOf(13, 0), true}, {leafOf(13, 0), leafOf(14, 0), false},
		{branchOf(11), branchOf(11), true}, {branchOf(11), branchOf(12), false},
	} {
		got, ok := node.Join(c.a, 5, c.b)
		if ok != c.ok || !ok && !reflect.DeepEqual(got, node.Node{}) {
			t.Errorf("join %d: %v %v", i, got, ok)
		}
	}
}

// Every call ends, of nodes that are none too.
func TestBroken(t *testing.T) {
	for _, n := range broken {
		node.Size(n)
		node.Find(n, 1)
		node.Put(n, 1, "")
		for i := -1; i < 4; i++ {
			node.Without(n, i)
			node.Hang(n, i, 1, 2)
			node.Unhang(n, i)
		}
		for _, m := range broken {
			node.Join(n, 1, m)
		}
		for _, m := range []node.Node{leaf(list(1), ""), branch(nil, 2)} {
			if _, ok := node.Join(n, 1, m); ok {
				t.Errorf("%v is joined", n)
			}
			if _, ok := node.Join(m, 1, n); ok {
				t.Errorf("%v is joined", n)
			}
		}
	}
}

// P10.4: what was written is read as it was; what is split is joined again as it was.
func TestRound(t *testing.T) {
	r := rand.New(rand.NewSource(10))
	for range 3000 {
		n := node.Node{Leaf: r.Intn(2) == 0}
		key := uint64(0)
		if !n.Leaf {
			n.Kids = []int{2 + r.Intn(638)}
		}
		for range r.Intn(26) {
			key += 1 + r.Uint64()>>(5+r.Intn(58))
			n.Keys = append(n.Keys, key)
			if n.Leaf {
				n.Vals = append(n.Vals, strings.Repeat("z", r.Intn(41)))
			} else {
				n.Kids = append(n.Kids, 2+r.Intn(638))
			}
		}
		if s, e := node.Encode(n); e == api.OK {
			got, e := node.Decode(s)
			if e != api.OK || len(s) != node.Size(n) {
				t.Fatal(e, len(s), node.Size(n))
			}
			same(t, "read", got, n)
		}
		a, mid, b, ok := node.Split(n)
		if !ok || node.Size(n) > api.MaxText {
			continue
		}
		got, ok := node.Join(a, mid, b)
		if !ok {
			t.Fatal("not joined")
		}
		same(t, "joined", got, n)
	}
}
