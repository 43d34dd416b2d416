package node

import (
	"bailiwick/api"
)

// ahead is what stands ahead of key k: of a branch with the kid between.
func ahead(n Node, k int) Node {
	if n.Leaf {
		return Node{Leaf: true, Keys: glue(n.Keys[:k]), Vals: glue(n.Vals[:k])}
	}
	return Node{Keys: glue(n.Keys[:k]), Kids: glue(n.Kids[:k+1])}
}

// behind is what stands behind the first k keys: of a branch without key k, which goes up.
func behind(n Node, k int) Node {
	if n.Leaf {
		return Node{Leaf: true, Keys: glue(n.Keys[k:]), Vals: glue(n.Vals[k:])}
	}
	return Node{Keys: glue(n.Keys[k+1:]), Kids: glue(n.Kids[k+1:])}
}

// leastToSplit is how many keys a node has at least that can be split.
func leastToSplit(n Node) int {
	if n.Leaf {
		return 2
	}
	return 3
}

// share is what key i takes, with its value, or with the kid behind it.
func share(n Node, i int) int {
	if n.Leaf {
		return keySize + lenSize + len(n.Vals[i])
	}
	return keySize + kidSize
}

// cut tells the place where n is split: as soon as the first part has half of it.
func cut(n Node) int {
	half, most := Size(n)/2, len(n.Keys)-leastToSplit(n)+1
	size := Size(ahead(n, 1))
	for k := 1; k < most; k++ {
		if size >= half {
			return k
		}
		size += share(n, k)
	}
	return most
}

// Split cuts a node in two.
func Split(n Node) (a Node, mid uint64, b Node, ok bool) {
	if !whole(n) || len(n.Keys) < leastToSplit(n) {
		return Node{}, 0, Node{}, false
	}
	k := cut(n)
	return ahead(n, k), n.Keys[k], behind(n, k), true
}

// Join puts two nodes together, if a page has room for both.
func Join(a Node, mid uint64, b Node) (Node, bool) {
	if a.Leaf != b.Leaf || !whole(a) || !whole(b) {
		return Node{}, false
	}
	both := Node{Leaf: a.Leaf, Keys: glue(a.Keys, b.Keys), Vals: glue(a.Vals, b.Vals), Kids: glue(a.Kids, b.Kids)}
	if !a.Leaf {
		both.Keys = glue(a.Keys, []uint64{mid}, b.Keys)
	}
	if Size(both) > api.MaxText {
		return Node{}, false
	}
	return both, true
}
