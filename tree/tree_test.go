package tree_test

import (
	"cmp"
	"math/rand"
	"slices"
	"strings"
	"testing"

	"bailiwick/api"
	"bailiwick/disk"
	"bailiwick/node"
	"bailiwick/shadow"
	"bailiwick/tree"
)

// bed is a store with a root.
type bed struct {
	t    *testing.T
	disk *disk.Disk
	s    *shadow.Store
	root int
}

func newBed(t *testing.T, sectors int) *bed {
	t.Helper()
	d, e := disk.New(sectors)
	if e != api.OK {
		t.Fatal(e)
	}
	s, e := shadow.Format(d)
	if e != api.OK {
		t.Fatal(e)
	}
	return &bed{t: t, disk: d, s: s}
}

func (b *bed) put(key uint64, value string) {
	b.t.Helper()
	root, e := tree.Put(b.s, b.root, key, value)
	if e != api.OK {
		b.t.Fatalf("Put(%d): %d", key, e)
	}
	b.root = root
}

func (b *bed) delete(key uint64) {
	b.t.Helper()
	root, ok, e := tree.Delete(b.s, b.root, key)
	if !ok || e != api.OK {
		b.t.Fatalf("Delete(%d): %v %d", key, ok, e)
	}
	b.root = root
}

func (b *bed) commit() {
	b.t.Helper()
	if e := b.s.Commit(b.root); e != api.OK {
		b.t.Fatalf("Commit: %d", e)
	}
}

func (b *bed) pages(want ...int) {
	b.t.Helper()
	got, e := tree.Pages(b.s, b.root)
	if e != api.OK || !slices.Equal(got, want) {
		b.t.Errorf("pages %v (%d), not %v", got, e, want)
	}
}

// lay writes a node by hand on a page that is taken.
func (b *bed) lay(n node.Node) int {
	b.t.Helper()
	text, e := node.Encode(n)
	if e != api.OK {
		b.t.Fatal(e)
	}
	return b.raw(2, text)
}

func (b *bed) raw(kind int, text string) int {
	b.t.Helper()
	page, e := b.s.Take()
	if e != api.OK {
		b.t.Fatal(e)
	}
	if e := b.s.Write(page, kind, text); e != api.OK {
		b.t.Fatal(e)
	}
	return page
}

func (b *bed) node(page int) node.Node {
	b.t.Helper()
	_, text, e := b.s.Read(page)
	if e != api.OK {
		b.t.Fatal(e)
	}
	n, e := node.Decode(text)
	if e != api.OK {
		b.t.Fatal(e)
	}
	return n
}

func leaf(value string, keys ...uint64) node.Node {
	n := node.Node{Leaf: true, Keys: keys}
	for range keys {
		n.Vals = append(n.Vals, value)
	}
	return n
}

// branch has the keys 10, 20 .. between its kids.
func branch(kids ...int) node.Node {
	n := node.Node{Kids: kids}
	for i := range len(kids) - 1 {
		n.Keys = append(n.Keys, uint64(10*(i+1)))
	}
	return n
}

func times(kid, n int) []int {
	var kids []int
	for range n {
		kids = append(kids, kid)
	}
	return kids
}

var long = strings.Repeat("v", 40)

// P11.1: of root 0 there is nothing, whatever is asked.
func TestNothing(t *testing.T) {
	b := newBed(t, 8)
	if v, ok, e := tree.Get(b.s, 0, 5); v != "" || ok || e != api.OK {
		t.Error(v, ok, e)
	}
	if list, e := tree.Scan(b.s, 0, 0, 9); len(list) != 0 || e != api.OK {
		t.Error(list, e)
	}
	if root, ok, e := tree.Delete(b.s, 0, 5); root != 0 || ok || e != api.OK {
		t.Error(root, ok, e)
	}
	b.pages()
}

// P11.1: keys are found, and told in order.
func TestGetScan(t *testing.T) {
	b := newBed(t, 64)
	for key := uint64(0); key < 100; key += 2 {
		b.put(key, string(rune('a'+key%26)))
	}
	for key := uint64(0); key < 104; key++ {
		v, ok, e := tree.Get(b.s, b.root, key)
		there := key < 100 && key%2 == 0
		want := ""
		if there {
			want = string(rune('a' + key%26))
		}
		if v != want || ok != there || e != api.OK {
			t.Error(key, v, ok, e)
		}
		for _, most := range []int{-1 << 63, -1, 0, 1, 2, 7, 50, 99, 1<<63 - 1} {
			list, e := tree.Scan(b.s, b.root, key, most)
			first := (key + 1) / 2 * 2
			count := 0
			if first < 100 {
				count = max(0, min(most, int(100-first+1)/2))
			}
			if len(list) != count || e != api.OK {
				t.Fatal(key, most, len(list), count, e)
			}
			for i, entry := range list {
				if k := first + uint64(2*i); entry != (api.Entry{Key: k, Value: string(rune('a' + k%26))}) {
					t.Fatal(key, most, i, entry)
				}
			}
		}
	}
}

// P11.1: a page that is no node's, the store's errors, and how deep.
func TestWrongPages(t *testing.T) {
	b := newBed(t, 40)
	good, _ := node.Encode(leaf("", 1))
	wrong := map[int]api.Errno{-1: api.ErrArg, 1: api.ErrArg, 40: api.ErrArg, 39: api.ErrSum}
	wrong[b.raw(3, good)] = api.ErrForm
	wrong[b.raw(2, good+"x")] = api.ErrForm
	wrong[b.raw(2, "")] = api.ErrForm
	wrong[b.lay(branch(30))] = api.ErrSum
	wrong[b.lay(branch(639))] = api.ErrArg
	wrong[b.lay(branch(9, 9))] = api.ErrSum
	for root, want := range wrong {
		b.fails(root, want)
	}
}

func (b *bed) fails(root int, want api.Errno) {
	b.t.Helper()
	if v, ok, e := tree.Get(b.s, root, 1); v != "" || ok || e != want {
		b.t.Errorf("Get of root %d: %d, not %d", root, e, want)
	}
	if list, e := tree.Scan(b.s, root, 1, 1); len(list) != 0 || e != want {
		b.t.Errorf("Scan of root %d: %d, not %d", root, e, want)
	}
	if list, e := tree.Scan(b.s, root, 1, 0); len(list) != 0 || e != api.OK {
		b.t.Errorf("Scan of no keys of root %d: %d", root, e)
	}
	if list, e := tree.Pages(b.s, root); len(list) != 0 || e != want {
		b.t.Errorf("Pages of root %d: %d, not %d", root, e, want)
	}
	if r, e := tree.Put(b.s, root, 1, "x"); r != 0 || e != want {
		b.t.Errorf("Put of root %d: %d, not %d", root, e, want)
	}
	if r, ok, e := tree.Delete(b.s, root, 1); r != 0 || ok || e != want {
		b.t.Errorf("Delete of root %d: %d, not %d", root, e, want)
	}
}

// P11.1: ten deep is well, eleven is not; a ring has an end.
func TestDeep(t *testing.T) {
	b := newBed(t, 40)
	root := b.lay(leaf("v", 5))
	for range 9 {
		root = b.lay(branch(root))
	}
	if v, ok, e := tree.Get(b.s, root, 5); v != "v" || !ok || e != api.OK {
		t.Error(v, ok, e)
	}
	if list, e := tree.Pages(b.s, root); len(list) != 10 || e != api.OK {
		t.Error(list, e)
	}
	b.fails(b.lay(branch(root)), api.ErrForm)
	next := b.raw(2, "") + 1
	if ring := b.lay(branch(next)); ring != next {
		t.Fatal(ring)
	}
	b.fails(next, api.ErrForm)
	unread := b.lay(branch(39))
	for range 9 {
		unread = b.lay(branch(unread))
	}
	b.fails(unread, api.ErrSum)
}

// P11.1: 640 pages are read in one call, the 641st is ErrForm.
func TestMostPages(t *testing.T) {
	b := newBed(t, 40)
	one := b.lay(leaf("v", 5))
	some := b.lay(branch(times(one, 24)...))
	many := b.lay(branch(times(some, 24)...))
	kids := append([]int{many, some}, times(one, 13)...)
	root := b.lay(branch(kids...))
	if list, e := tree.Pages(b.s, root); len(list) != 640 || e != api.OK || !slices.Equal(list[:5], []int{root, many, some, one, one}) {
		t.Error(len(list), e)
	}
	if list, e := tree.Scan(b.s, root, 0, 9999); len(list) != 24*24+24+13 || e != api.OK {
		t.Error(len(list), e)
	}
	bad := b.raw(2, "bad")
	for _, last := range []int{one, bad, 39, 639} {
		root = b.lay(branch(append(kids, last)...))
		if list, e := tree.Pages(b.s, root); len(list) != 0 || e != api.ErrForm {
			t.Error(last, len(list), e)
		}
		if list, e := tree.Scan(b.s, root, 0, 9999); len(list) != 0 || e != api.ErrForm {
			t.Error(last, len(list), e)
		}
		if list, e := tree.Scan(b.s, root, 0, 24*24+24+13); len(list) != 24*24+24+13 || e != api.OK {
			t.Error(last, len(list), e)
		}
	}
	b.fails(b.lay(branch(639, one)), api.ErrArg)
	if list, e := tree.Scan(b.s, b.lay(branch(one, 639)), 0, 1); len(list) != 1 || e != api.OK {
		t.Error(list, e)
	}
}

// P11.2: what is refused; the pages of a tree that grows: in place if fresh, else anew.
func TestPutPages(t *testing.T) {
	b := newBed(t, 40)
	if root, e := tree.Put(b.s, 0, 1, long+"v"); root != 0 || e != api.ErrArg {
		t.Error(root, e)
	}
	if root, e := tree.Put(b.s, 99, 1, long+"v"); root != 0 || e != api.ErrArg {
		t.Error(root, e)
	}
	b.pages()
	for key := uint64(1); key <= 4; key++ {
		b.put(key*10, long)
		b.pages(2)
	}
	b.put(50, long)
	b.pages(4, 2, 3)
	if n := b.node(4); n.Leaf || !slices.Equal(n.Keys, []uint64{40}) || !slices.Equal(b.node(2).Keys, []uint64{10, 20, 30}) || !slices.Equal(b.node(3).Keys, []uint64{40, 50}) {
		t.Error(n)
	}
	b.put(50, "x")
	b.pages(4, 2, 3)
	b.commit()
	b.put(50, "x")
	b.pages(6, 2, 5)
	b.put(10, "y")
	b.pages(6, 7, 5)
	b.commit()
	if !slices.Equal(b.s.Used(), []int{5, 6, 7}) {
		t.Error(b.s.Used())
	}
	b.put(41, long)
	b.put(42, long)
	b.put(43, long)
	b.pages(3, 7, 2)
	b.put(44, long)
	b.pages(3, 7, 2, 4)
}

// P11.2: a split of a page that counts: the first part anew, the second one behind, then the branch.
func TestPutSplitUsed(t *testing.T) {
	b := newBed(t, 40)
	for key := uint64(1); key <= 4; key++ {
		b.put(key*10, long)
	}
	b.commit()
	b.put(5, long)
	b.pages(5, 3, 4)
	b.commit()
	if !slices.Equal(b.s.Used(), []int{3, 4, 5}) {
		t.Error(b.s.Used())
	}
	b.put(6, "")
	b.pages(6, 2, 4)
}

// P11.2: branches are split too.
func TestPutBranches(t *testing.T) {
	b := newBed(t, 640)
	for key := uint64(0); key < 75; key++ {
		b.put(key, long)
	}
	top := b.node(b.root)
	if top.Leaf || b.node(top.Kids[0]).Leaf || len(top.Keys) != 1 {
		t.Error(top)
	}
	left, right := b.node(top.Kids[0]), b.node(top.Kids[1])
	if len(left.Keys) != 12 || top.Keys[0] != 39 || len(right.Keys) != 11 || right.Keys[0] != 42 {
		t.Error(left, top, right)
	}
	b.commit()
	pages, _ := tree.Pages(b.s, b.root)
	slices.Sort(pages)
	if !slices.Equal(pages, b.s.Used()) {
		t.Error(pages, b.s.Used())
	}
}

// P11.3: what is not there, and a tree that becomes nothing.
func TestDeleteLeaf(t *testing.T) {
	b := newBed(t, 8)
	b.put(1, "a")
	b.put(2, "b")
	if root, ok, e := tree.Delete(b.s, b.root, 3); root != b.root || ok || e != api.OK {
		t.Error(root, ok, e)
	}
	b.commit()
	b.delete(1)
	b.pages(3)
	b.delete(2)
	b.pages()
	if b.root != 0 || b.s.Fresh(3) || b.s.Left() != 5 {
		t.Error(b.root, b.s.Left())
	}
	b.commit()
	if len(b.s.Used()) != 0 {
		t.Error(b.s.Used())
	}
	b.put(1, "a")
	b.pages(2)
	b.commit()
	b.delete(1)
	if b.root != 0 || b.s.Give(2) != api.ErrState {
		t.Error("the root was not given")
	}
}

// P11.3: a kid that is low is put together with the left one, or else the right one, in the left one's place.
func TestDeleteJoin(t *testing.T) {
	v := strings.Repeat("v", 20)
	three := func(b *bed) (l, m, r int) {
		l, m, r = b.lay(leaf(v, 1, 2, 3)), b.lay(leaf(v, 11, 12, 13)), b.lay(leaf(v, 21, 22, 23))
		b.root = b.lay(branch(l, m, r))
		b.commit()
		return
	}
	b := newBed(t, 40)
	three(b) // 2, 3, 4 under 5; a leaf of three has 88 bytes, of two 59
	b.delete(12)
	b.pages(7, 6, 4)
	if n := b.node(6); !slices.Equal(n.Keys, []uint64{1, 2, 3, 11, 13}) || !slices.Equal(b.node(7).Keys, []uint64{20}) {
		t.Error(n)
	}
	b.commit()
	if !slices.Equal(b.s.Used(), []int{4, 6, 7}) {
		t.Error(b.s.Used())
	}
	b = newBed(t, 40)
	three(b)
	b.delete(1)
	b.pages(7, 6, 4)
	if n := b.node(6); !slices.Equal(n.Keys, []uint64{2, 3, 11, 12, 13}) {
		t.Error(n)
	}
	b.delete(21)
	b.pages(6)
	if n := b.node(6); !slices.Equal(n.Keys, []uint64{2, 3, 11, 12, 13, 22, 23}) {
		t.Error(n)
	}
	b.commit()
	if !slices.Equal(b.s.Used(), []int{6}) {
		t.Error(b.s.Used())
	}
}

// P11.3: what is too much for one page is shared anew; what is not low stays alone.
func TestDeleteShare(t *testing.T) {
	b := newBed(t, 40)
	l, r := b.lay(leaf(strings.Repeat("v", 37), 1, 2, 3, 4, 5)), b.lay(leaf(strings.Repeat("w", 26), 11, 12))
	b.root = b.lay(branch(l, r)) // 231 and 71 bytes
	b.commit()
	b.delete(1) // 185: not low
	b.pages(6, 5, 3)
	b.delete(12) // 36: low; both have 220 bytes
	b.pages(5)
	b = newBed(t, 40)
	l, r = b.lay(leaf(strings.Repeat("v", 37), 1, 2, 3, 4, 5)), b.lay(leaf(strings.Repeat("w", 26), 11, 12))
	b.root = b.lay(branch(l, r))
	b.commit()
	b.delete(12) // 36: low; both have 266 bytes: half is 133; 47, 93, 139
	b.pages(7, 5, 6)
	if n := b.node(7); !slices.Equal(n.Keys, []uint64{4}) || !slices.Equal(b.node(5).Keys, []uint64{1, 2, 3}) || !slices.Equal(b.node(6).Keys, []uint64{4, 5, 11}) {
		t.Error(n)
	}
	b.commit()
	if !slices.Equal(b.s.Used(), []int{5, 6, 7}) {
		t.Error(b.s.Used())
	}
}

// P11.3: 80 bytes are not low, 79 are; a root's only kid is the root.
func TestDeleteLow(t *testing.T) {
	for size, joined := range map[int]bool{80: false, 79: true} {
		b := newBed(t, 40)
		kid := node.Node{Leaf: true, Keys: []uint64{1, 2, 3}, Vals: []string{"x", long, strings.Repeat("y", size-1-18-40)}}
		b.root = b.lay(branch(b.lay(kid), b.lay(leaf("z", 11))))
		b.commit()
		b.delete(1)
		if joined {
			b.pages(5)
		} else {
			b.pages(6, 5, 3)
		}
	}
}

// P11.2, P11.3: 240 bytes are one page, 241 are two.
func TestEdge(t *testing.T) {
	for size, whole := range map[int]bool{240: true, 241: false} {
		value := strings.Repeat("x", size-1-4*49-9)
		b := newBed(t, 40)
		for key := uint64(1); key <= 4; key++ {
			b.put(key, long)
		}
		b.put(5, value)
		if list, _ := tree.Pages(b.s, b.root); (len(list) == 1) != whole {
			t.Error("put", size, list)
		}
		b = newBed(t, 40)
		left := node.Node{Leaf: true, Keys: []uint64{1, 2}, Vals: []string{long, ""}}
		right := node.Node{Leaf: true, Keys: []uint64{11, 12, 13, 14}, Vals: []string{long, long, long, value[:size-206]}}
		b.root = b.lay(branch(b.lay(left), b.lay(right)))
		b.commit()
		b.delete(2) // the left one has 50 bytes, both have so many
		if list, _ := tree.Pages(b.s, b.root); (len(list) == 1) != whole {
			t.Error("delete", size, list)
		}
	}
}

// P11.3: a neighbour may be as deep as any page.
func TestDeleteDeep(t *testing.T) {
	b := newBed(t, 40)
	b.root = b.lay(branch(b.lay(leaf("a", 1, 2)), b.lay(leaf("b", 11))))
	for range 8 {
		b.root = b.lay(branch(b.root))
	}
	b.commit()
	b.delete(1)
	if list, e := tree.Scan(b.s, b.root, 0, 9); len(list) != 2 || e != api.OK {
		t.Error(list, e)
	}
	if list, e := tree.Pages(b.s, b.root); len(list) != 9 || e != api.OK {
		t.Error(list, e)
	}
}

// P11.3: branches are put together too, with the key between.
func TestDeleteBranches(t *testing.T) {
	b := newBed(t, 40)
	big := strings.Repeat("v", 30)
	l := b.lay(branch(b.lay(leaf(big, 1, 2, 3)), b.lay(leaf(big, 11, 12, 13))))
	m := b.lay(node.Node{Keys: []uint64{200}, Kids: []int{b.lay(leaf(big, 101, 102, 103)), b.lay(leaf(big, 201, 202, 203))}})
	b.root = b.lay(node.Node{Keys: []uint64{100}, Kids: []int{l, m}})
	b.commit()
	b.delete(201) // both leaves have 79 and 118 bytes: one of 196; the branch has none to its right, so the left one joins
	n := b.node(b.root)
	if n.Leaf || !slices.Equal(n.Keys, []uint64{10, 100}) || len(n.Kids) != 3 {
		t.Fatal(n)
	}
	if kid := b.node(n.Kids[2]); !slices.Equal(kid.Keys, []uint64{101, 102, 103, 202, 203}) {
		t.Error(kid)
	}
	b.commit()
	pages, _ := tree.Pages(b.s, b.root)
	slices.Sort(pages)
	if !slices.Equal(pages, b.s.Used()) {
		t.Error(pages, b.s.Used())
	}
}

// P11.3: a leaf beside a branch; P11.2: a node that is not right is not written.
func TestDeleteWrong(t *testing.T) {
	b := newBed(t, 40)
	small := b.lay(leaf("", 1, 2))
	twig := b.lay(branch(b.lay(leaf("", 11)), b.lay(leaf("", 19))))
	root := b.lay(branch(small, twig))
	if r, ok, e := tree.Delete(b.s, root, 1); r != 0 || ok || e != api.ErrForm {
		t.Error(r, ok, e)
	}
	single := b.lay(branch(b.lay(leaf("", 7))))
	if r, ok, e := tree.Delete(b.s, single, 7); r != 0 || ok || e != api.ErrForm {
		t.Error(r, ok, e)
	}
	root = b.lay(branch(b.lay(leaf("", 5, 15)), b.lay(leaf("", 12))))
	if r, ok, e := tree.Delete(b.s, root, 5); r != 0 || ok || e != api.ErrForm {
		t.Error(r, ok, e)
	}
	unread := b.lay(branch(b.lay(leaf("", 5, 6)), 39))
	if r, ok, e := tree.Delete(b.s, unread, 5); r != 0 || ok || e != api.ErrSum {
		t.Error(r, ok, e)
	}
}

// P11.4: what was done ahead of an error stays: a page that counted is given, one is taken.
func TestErrorStays(t *testing.T) {
	b := newBed(t, 12)
	kid := b.lay(leaf("", 7))
	b.root = b.lay(branch(kid))
	b.commit()
	if _, _, e := tree.Delete(b.s, b.root, 7); e != api.ErrForm {
		t.Error(e)
	}
	if e := b.s.Give(kid); e != api.ErrState || !b.s.Fresh(4) {
		t.Error("the leaf was not given, or none taken", e)
	}
}

// The store's errors, and no room.
func TestFull(t *testing.T) {
	b := newBed(t, 8)
	for key := uint64(1); key <= 5; key++ {
		b.put(key, long)
	}
	b.commit()
	for range 2 {
		b.s.Take()
	}
	if r, e := tree.Put(b.s, b.root, 1, ""); r != 0 || e != api.ErrFull {
		t.Error(r, e)
	}
	b.s.Rollback()
	b.disk.Fuse(0)
	if r, e := tree.Put(b.s, b.root, 1, ""); r != 0 || e != api.ErrDown {
		t.Error(r, e)
	}
	b.fails(b.root, api.ErrDown)
	b.fails(99, api.ErrDown)
	if r, e := tree.Put(b.s, 0, 1, ""); r != 0 || e != api.ErrDown {
		t.Error(r, e)
	}
	if r, e := tree.Put(b.s, 0, 1, long+"v"); r != 0 || e != api.ErrArg {
		t.Error(r, e)
	}
	given := newBed(t, 8)
	given.put(1, "")
	given.commit()
	given.s.Give(given.root)
	if r, e := tree.Put(given.s, given.root, 1, ""); r != 0 || e != api.ErrState {
		t.Error(r, e)
	}
}

// check walks the tree and looks at each node's place.
func (b *bed) check(page int, least, above uint64, depth int) (leafDepth int) {
	n := b.node(page)
	for _, key := range n.Keys {
		if key < least || above != 0 && key >= above {
			b.t.Fatalf("key %d out of %d to %d", key, least, above)
		}
	}
	if n.Leaf {
		return depth
	}
	for i, kid := range n.Kids {
		from, to := least, above
		if i > 0 {
			from = n.Keys[i-1]
		}
		if i < len(n.Keys) {
			to = n.Keys[i]
		}
		d := b.check(kid, from, to, depth+1)
		if i > 0 && d != leafDepth {
			b.t.Fatal("leaves of two depths")
		}
		leafDepth = d
	}
	return leafDepth
}

func (b *bed) holds(model map[uint64]string) {
	b.t.Helper()
	list, e := tree.Scan(b.s, b.root, 0, 1<<30)
	if e != api.OK || len(list) != len(model) || !slices.IsSortedFunc(list, func(x, y api.Entry) int { return cmp.Compare(x.Key, y.Key) }) {
		b.t.Fatalf("%d entries, not %d (%d)", len(list), len(model), e)
	}
	for _, entry := range list {
		if v, is := model[entry.Key]; !is || v != entry.Value {
			b.t.Fatal(entry)
		}
	}
}

// P11.5: puts and deletes as of a map; the used pages are those of the tree.
func TestRandom(t *testing.T) {
	for seed := range int64(12) {
		r := rand.New(rand.NewSource(seed))
		b := newBed(t, 640)
		model := map[uint64]string{}
		for i := range 1500 {
			key := uint64(r.Intn(300)) << (4 * (seed % 15))
			if r.Intn(10) < 5+i/300%2*3-1 {
				value := strings.Repeat("x", r.Intn(41))
				b.put(key, value)
				model[key] = value
			} else {
				root, ok, e := tree.Delete(b.s, b.root, key)
				if _, is := model[key]; is != ok || e != api.OK {
					t.Fatal(key, ok, is, e)
				}
				b.root = root
				delete(model, key)
			}
			if i%7 == 0 {
				b.commit()
				pages, e := tree.Pages(b.s, b.root)
				slices.Sort(pages)
				if !slices.Equal(pages, b.s.Used()) || e != api.OK {
					t.Fatal(pages, b.s.Used())
				}
			}
			if i%50 == 0 {
				b.holds(model)
				if b.root != 0 {
					b.check(b.root, 0, 0, 1)
				}
			}
		}
		b.holds(model)
	}
}
