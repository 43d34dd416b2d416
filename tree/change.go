package tree

import (
	"slices"

	"bailiwick/api"
	"bailiwick/node"
	"bailiwick/shadow"
)

// write puts a node on a page that is fresh.
func (v *visit) write(page int, n node.Node) api.Errno {
	text, e := node.Encode(n)
	if e != api.OK {
		return api.ErrForm
	}
	return v.store.Write(page, nodeKind, text)
}

// place puts a node on a page that is taken for it.
func (v *visit) place(n node.Node) (int, api.Errno) {
	page, e := v.store.Take()
	if e != api.OK {
		return 0, e
	}
	return page, v.write(page, n)
}

// lay writes a node that has changed: in its place, if that is fresh; else the page that counts stays as it is.
func (v *visit) lay(page int, n node.Node) (int, api.Errno) {
	if v.store.Fresh(page) {
		return page, v.write(page, n)
	}
	if e := v.store.Give(page); e != api.OK {
		return 0, e
	}
	return v.place(n)
}

// grown is what a node that got something became: perhaps two, with a key between.
type grown struct {
	page   int
	second int // 0, if it is one
	mid    uint64
}

// grow lays a node that may have got too great.
func (v *visit) grow(page int, n node.Node) (g grown, e api.Errno) {
	if node.Size(n) <= api.MaxText {
		g.page, e = v.lay(page, n)
		return g, e
	}
	a, mid, b, _ := node.Split(n)
	g.mid = mid
	if g.page, e = v.lay(page, a); e != api.OK {
		return g, e
	}
	g.second, e = v.place(b)
	return g, e
}

// Put answers the root of a tree in which the key has the value.
func Put(s *shadow.Store, root int, key uint64, value string) (int, api.Errno) {
	if len(value) > api.MaxValue {
		return 0, api.ErrArg
	}
	v := visit{store: s}
	top, e := v.put(root, key, value)
	if e != api.OK {
		return 0, e
	}
	return top, api.OK
}

func (v *visit) put(root int, key uint64, value string) (int, api.Errno) {
	if root == 0 {
		return v.place(node.Put(node.Node{Leaf: true}, key, value))
	}
	w, e := v.down(root, key)
	if e != api.OK {
		return 0, e
	}
	leaf := w.pop()
	g, e := v.grow(leaf.page, node.Put(leaf.node, key, value))
	for e == api.OK && w.depth() > 0 {
		up := w.pop()
		up.node.Kids[up.place] = g.page
		if g.second != 0 {
			up.node = node.Hang(up.node, up.place, g.mid, g.second)
		}
		g, e = v.grow(up.page, up.node)
	}
	if e != api.OK || g.second == 0 {
		return g.page, e
	}
	return v.place(node.Node{Keys: []uint64{g.mid}, Kids: []int{g.page, g.second}})
}

// Delete answers the root of a tree in which the key is not.
func Delete(s *shadow.Store, root int, key uint64) (newRoot int, ok bool, e api.Errno) {
	if root == 0 {
		return 0, false, api.OK
	}
	v := visit{store: s}
	w, e := v.down(root, key)
	if e != api.OK {
		return 0, false, e
	}
	at := w.pop()
	if !at.found {
		return root, false, api.OK
	}
	at.node = node.Without(at.node, at.place)
	for w.depth() > 0 {
		up := w.pop()
		if at, e = v.shrink(up, at, w.depth()+2); e != api.OK {
			return 0, false, e
		}
	}
	if newRoot, e = v.top(at); e != api.OK {
		return 0, false, e
	}
	return newRoot, true, api.OK
}

// top lays the root, if one is needed.
func (v *visit) top(at step) (int, api.Errno) {
	if len(at.node.Keys) > 0 {
		return v.lay(at.page, at.node)
	}
	if e := v.store.Give(at.page); e != api.OK || at.node.Leaf {
		return 0, e
	}
	return at.node.Kids[0], api.OK
}

// shrink lays a kid that has changed, which is so deep, and answers the branch above as it has to be.
func (v *visit) shrink(up, kid step, depth int) (step, api.Errno) {
	if node.Size(kid.node) >= lowSize || len(up.node.Kids) == 1 {
		page, e := v.lay(kid.page, kid.node)
		up.node.Kids[up.place] = page
		return up, e
	}
	beside := up.place - 1
	if up.place == 0 {
		beside = 1
	}
	n, e := v.node(up.node.Kids[beside], depth)
	if e != api.OK {
		return up, e
	}
	other := step{page: up.node.Kids[beside], node: n}
	if beside < up.place {
		return v.merge(up, beside, other, kid)
	}
	return v.merge(up, up.place, kid, other)
}

// merge puts two kids together at both sides of key i of the branch above, into one if there is room.
func (v *visit) merge(up step, i int, left, right step) (step, api.Errno) {
	if left.node.Leaf != right.node.Leaf {
		return up, api.ErrForm
	}
	both := together(left.node, up.node.Keys[i], right.node)
	if node.Size(both) > api.MaxText {
		return v.share(up, i, left.page, right.page, both)
	}
	page, e := v.lay(left.page, both)
	if e != api.OK {
		return up, e
	}
	if e = v.store.Give(right.page); e != api.OK {
		return up, e
	}
	up.node.Kids[i] = page
	up.node = node.Unhang(up.node, i)
	return up, api.OK
}

// share splits what two kids had anew between them.
func (v *visit) share(up step, i, left, right int, both node.Node) (step, api.Errno) {
	a, mid, b, _ := node.Split(both)
	first, e := v.lay(left, a)
	if e != api.OK {
		return up, e
	}
	second, e := v.lay(right, b)
	up.node.Kids[i], up.node.Kids[i+1] = first, second
	up.node.Keys[i] = mid
	return up, e
}

// together is both nodes in one, which may be too great for a page: node.Join would refuse it.
func together(a node.Node, mid uint64, b node.Node) node.Node {
	var between []uint64
	if !a.Leaf {
		between = []uint64{mid}
	}
	return node.Node{
		Leaf: a.Leaf,
		Keys: slices.Concat(a.Keys, between, b.Keys),
		Vals: slices.Concat(a.Vals, b.Vals),
		Kids: slices.Concat(a.Kids, b.Kids),
	}
}
