package intent_test

import (
	"math/rand"
	"slices"
	"strings"
	"testing"

	"bailiwick/api"
	"bailiwick/capt"
	"bailiwick/disk"
	"bailiwick/intent"
	"bailiwick/node"
	"bailiwick/rec"
	"bailiwick/shadow"
	"bailiwick/slot"
	"bailiwick/space"
	"bailiwick/txn"
)

const far = 1<<63 - 1

type bed struct {
	*testing.T
	x *txn.Txn
}

func newBed(t *testing.T, sectors int) *bed {
	t.Helper()
	d, _ := disk.New(sectors)
	s, e := shadow.Format(d)
	if e != api.OK {
		t.Fatal(e)
	}
	b := &bed{t, txn.Begin(s)}
	if _, e := capt.Register(b.x, "ann", 1000); e != api.OK {
		t.Fatal(e)
	}
	return b
}

func key(kind, a, b int) uint64 {
	k, ok := space.Key(kind, a, b)
	if !ok {
		panic("no key")
	}
	return k
}

func (b *bed) put(kind, x, y int, value string) {
	b.Helper()
	if !b.x.Put(key(kind, x, y), value) {
		b.Fatal(b.x.Err())
	}
}

// keys tells the keys of a kind, as first number, second number and value.
func (b *bed) keys(kind int) [][3]any {
	var list [][3]any
	for _, entry := range b.x.Scan(space.First(kind), 10000) {
		if k, x, y := space.Split(entry.Key); k == kind {
			list = append(list, [3]any{x, y, entry.Value})
		}
	}
	return list
}

func (b *bed) hasKeys(kind int, want ...[3]any) {
	b.Helper()
	if got := b.keys(kind); !slices.Equal(got, want) {
		b.Errorf("keys of kind %d: %q, not %q", kind, got, want)
	}
}

// tree makes caps, each below the one of the number that is told (0: none).
func (b *bed) tree(parents ...int) {
	b.Helper()
	for i, parent := range parents {
		id, e := 0, api.OK
		if parent == 0 {
			id, e = capt.Mint(b.x, 1, 3, 7, 0, 0)
		} else {
			id, e = capt.Derive(b.x, parent, 1, 7, 0, 0, 0)
		}
		if e != api.OK || id != i+1 {
			b.Fatal(i, id, e)
		}
	}
}

func (b *bed) begin(id int, self bool, want int) {
	b.Helper()
	if n, e := intent.Begin(b.x, id, self); n != want || e != api.OK {
		b.Fatalf("Begin(%d, %v) = %d, %d", id, self, n, e)
	}
}

func (b *bed) step(chunk, want int) {
	b.Helper()
	if n, e := intent.Step(b.x, chunk); n != want || e != api.OK {
		b.Fatalf("Step(%d) = %d, %d, not %d", chunk, n, e, want)
	}
}

func (b *bed) left(want int) {
	b.Helper()
	if n, e := intent.Left(b.x); n != want || e != api.OK {
		b.Errorf("Left() = %d, %d, not %d", n, e, want)
	}
}

// caps tells which caps there are.
func (b *bed) caps(want ...int) {
	b.Helper()
	var got []int
	for _, k := range b.keys(space.Cap) {
		got = append(got, k[1].(int))
	}
	if !slices.Equal(got, want) {
		b.Errorf("caps %v, not %v", got, want)
	}
}

func (b *bed) unchanged(want api.Errno, do func() api.Errno) {
	b.Helper()
	was := b.x.Scan(0, 10000)
	if e := do(); e != want {
		b.Errorf("error %d, not %d", e, want)
	}
	if !slices.Equal(was, b.x.Scan(0, 10000)) {
		b.Error("changed by an error")
	}
}

// P18.1: what Begin writes.
func TestBegin(t *testing.T) {
	b := newBed(t, 60)
	b.tree(0, 1, 2, 1)
	b.left(0)
	begin := func(id int, self bool) func() api.Errno {
		return func() api.Errno {
			n, e := intent.Begin(b.x, id, self)
			if n != 0 {
				t.Error(n)
			}
			return e
		}
	}
	for _, id := range []int{0, -1, 5, far} {
		b.unchanged(api.ErrNone, begin(id, true))
		b.unchanged(api.ErrNone, begin(id, false))
	}
	b.begin(1, false, 1)
	b.begin(2, true, 2)
	b.unchanged(api.ErrRevoked, begin(2, true))
	b.begin(2, false, 3)
	b.begin(3, true, 4)
	b.left(4)
	b.hasKeys(space.Intent, [3]any{0, 1, "\x00\x00\x01\x00"}, [3]any{0, 2, "\x00\x00\x02\x01"}, [3]any{0, 3, "\x00\x00\x02\x00"}, [3]any{0, 4, "\x00\x00\x03\x01"})
	b.hasKeys(space.Stack, [3]any{1, 0, "\x00\x00\x01"}, [3]any{2, 0, "\x00\x00\x02"}, [3]any{3, 0, "\x00\x00\x02"}, [3]any{4, 0, "\x00\x00\x03"})
	if v, _ := b.x.Get(key(space.Meta, 0, 3)); v != "\x00\x00\x04" {
		t.Errorf("%x", v)
	}
	one, _ := capt.Get(b.x, 1)
	two, _ := capt.Get(b.x, 2)
	if one.Cut != 4 || one.Revoked || two.Cut != 4 || !two.Revoked {
		t.Error(one, two)
	}
	b.put(space.Cap, 0, 9, "bad")
	b.unchanged(api.ErrForm, begin(9, true))
}

// P18.1: numbers that come to their end, or are none; what was done ahead stays.
func TestBeginNumbers(t *testing.T) {
	b := newBed(t, 60)
	b.tree(0)
	b.put(space.Meta, 0, 3, "\xff\xff\xfe")
	b.put(space.Stack, api.MaxID, 0, "laid over")
	b.put(space.Stack, api.MaxID, 3, "stays")
	b.begin(1, false, api.MaxID)
	b.hasKeys(space.Stack, [3]any{api.MaxID, 0, "\x00\x00\x01"}, [3]any{api.MaxID, 3, "stays"})
	if n, e := intent.Begin(b.x, 1, true); n != 0 || e != api.ErrFull {
		t.Error(n, e)
	}
	if c, _ := capt.Get(b.x, 1); !c.Revoked {
		t.Error("what was done is gone")
	}
	b = newBed(t, 60)
	b.tree(0)
	b.put(space.Meta, 0, 3, "bad!")
	if n, e := intent.Begin(b.x, 1, true); n != 0 || e != api.ErrForm {
		t.Error(n, e)
	}
	b.put(space.Meta, 0, 1, "bad!")
	if n, e := intent.Begin(b.x, 1, false); n != 0 || e != api.ErrForm {
		t.Error(n, e)
	}
	b.left(0)
}

// P18.2: nothing to do.
func TestStepNothing(t *testing.T) {
	b := newBed(t, 60)
	b.step(4, 0)
	b.tree(0, 1)
	b.step(4, 0)
	b.begin(1, true, 1)
	for _, chunk := range []int{0, -1, -far - 1} {
		b.unchanged(api.OK, func() api.Errno { _, e := intent.Step(b.x, chunk); return e })
	}
	b.step(far, 2)
	b.left(0)
}

// P18.2: the deepest go first, the least of them; the stack stays between steps.
func TestStepSelf(t *testing.T) {
	b := newBed(t, 60)
	b.tree(0, 1, 2, 1, 4, 4, 0) // 1: 2 (3), 4 (5, 6); 7
	for id := 1; id <= 7; id++ {
		slot.Take(b.x, id, uint64(id))
		slot.Take(b.x, id, uint64(10*id))
	}
	b.begin(1, true, 1)
	b.step(1, 1)
	b.caps(1, 2, 4, 5, 6, 7)
	b.hasKeys(space.Stack, [3]any{1, 0, "\x00\x00\x01"}, [3]any{1, 1, "\x00\x00\x02"})
	b.step(2, 2)
	b.caps(1, 4, 6, 7)
	b.hasKeys(space.Stack, [3]any{1, 0, "\x00\x00\x01"}, [3]any{1, 1, "\x00\x00\x04"})
	b.left(1)
	b.step(9, 3)
	b.caps(7)
	b.left(0)
	b.hasKeys(space.Stack)
	b.hasKeys(space.Kid)
	for id := 1; id <= 14; id++ {
		s, _ := slot.At(b.x, id)
		if id >= 13 && s.Cap != 7 || id < 13 && (s.Cap != 0 || s.Epoch != 2) {
			t.Error(s)
		}
	}
	if o, _ := capt.OwnerOf(b.x, 1); o.Have != 1 {
		t.Error(o)
	}
	b.step(9, 0)
}

// P18.2: of a cap that is not revoked itself just the children up to its Cut.
func TestStepOthers(t *testing.T) {
	b := newBed(t, 60)
	b.tree(0, 1, 2, 1)
	b.begin(1, false, 1)
	if id, e := capt.Derive(b.x, 1, 1, 7, 0, 0, 0); id != 5 || e != api.OK {
		t.Fatal(id, e)
	}
	capt.Derive(b.x, 5, 1, 7, 0, 0, 0)
	b.step(9, 3)
	b.caps(1, 5, 6)
	b.left(0)
	b.hasKeys(space.Kid, [3]any{1, 5, ""}, [3]any{5, 6, ""})
	if capt.State(b.x, 6, 0) != api.OK {
		t.Error("6 is revoked")
	}
}

// P18.2: intents go one by one, by their numbers; what the first one swept is passed over.
func TestStepMany(t *testing.T) {
	b := newBed(t, 60)
	b.tree(0, 1, 2, 3, 0, 5)
	b.begin(3, true, 1)
	b.begin(1, false, 2)
	b.begin(2, true, 3)
	b.begin(5, true, 4)
	b.step(2, 2)
	b.left(3)
	b.caps(1, 2, 5, 6)
	b.hasKeys(space.Stack, [3]any{2, 0, "\x00\x00\x01"}, [3]any{3, 0, "\x00\x00\x02"}, [3]any{4, 0, "\x00\x00\x05"})
	b.step(2, 2)
	b.caps(1, 5)
	b.left(1)
	b.step(2, 1)
	b.caps(1)
	b.left(0)
	b.hasKeys(space.Stack)
}

// P18.2: a cap that is not there is taken off, with the key by which it was come upon.
func TestStepGone(t *testing.T) {
	b := newBed(t, 60)
	b.tree(0, 1)
	b.put(space.Kid, 1, 9, "")
	b.put(space.Kid, 1, 0, "")
	b.begin(1, true, 1)
	b.step(9, 2)
	b.caps()
	b.hasKeys(space.Kid)
	b.left(0)
	b = newBed(t, 60)
	b.put(space.Intent, 0, 5, "\x00\x00\x07\x01")
	b.put(space.Stack, 5, 0, "\x00\x00\x00")
	b.put(space.Stack, 5, 1, "\x00\x00\x08")
	b.put(space.Kid, 0, 8, "")
	b.step(9, 0)
	b.left(0)
	b.hasKeys(space.Kid, [3]any{0, 8, ""})
	b.hasKeys(space.Stack)
}

// P18.2: a child that says another parent is swept all the same.
func TestStepElsewhere(t *testing.T) {
	b := newBed(t, 60)
	b.tree(0, 0, 1)
	value, _ := rec.PutCap(api.Cap{ID: 3, Parent: 2, Object: 3, Owner: 1, Depth: 2})
	b.put(space.Cap, 0, 3, value)
	b.begin(1, true, 1)
	b.step(9, 2)
	b.caps(2)
	b.hasKeys(space.Kid)
}

// P18.2: a stack is MaxDepth deep at most.
func TestStepDeep(t *testing.T) {
	for length, want := range map[int]api.Errno{9: api.OK, 10: api.ErrForm} {
		b := newBed(t, 60)
		for id := 1; id <= length; id++ {
			c := api.Cap{ID: id, Parent: id - 1, Object: 3, Owner: 1, Depth: min(id, 8)}
			value, e := rec.PutCap(c)
			if e != api.OK {
				t.Fatal(e)
			}
			b.put(space.Cap, 0, id, value)
			b.put(space.Kid, id-1, id, "")
		}
		b.begin(1, true, 1)
		if n, e := intent.Step(b.x, 99); e != want || e == api.OK && n != length || e != api.OK && n != 0 {
			t.Error(length, n, e)
		}
	}
}

// Intents and stacks that are none.
func TestForm(t *testing.T) {
	deep := func(b *bed) {
		for depth := range 8 {
			b.put(space.Stack, 1, depth+1, "\x00\x00\x01")
		}
		b.put(space.Kid, 1, 1, "")
	}
	for i, f := range []func(b *bed){
		func(b *bed) { b.put(space.Intent, 0, 1, "\x00\x00\x01") },
		func(b *bed) { b.put(space.Intent, 0, 1, "\x00\x00\x01\x02") },
		func(b *bed) { b.put(space.Intent, 0, 1, "\x00\x00\x01\x01\x00") },
		func(b *bed) { b.x.Delete(key(space.Stack, 1, 0)) },
		func(b *bed) { b.put(space.Stack, 1, 0, "\x00\x01") },
		func(b *bed) { b.put(space.Stack, 1, 1, "") },
		func(b *bed) { b.put(space.Stack, 1, 9, "\x00\x00\x01") },
		func(b *bed) { b.put(space.Stack, 1, 1<<32-1, "\x00\x00\x01") },
		func(b *bed) { b.put(space.Cap, 0, 1, "bad") },
		func(b *bed) { b.put(space.Slot, 0, 201, "bad") },
		func(b *bed) { b.put(space.Owner, 0, 1, "bad") },
		func(b *bed) { b.put(space.Intent, 0, 0, "\x00\x00\x01\x01") },
		deep,
	} {
		b := newBed(t, 60)
		b.tree(0)
		b.begin(1, true, 1)
		f(b)
		if n, e := intent.Step(b.x, 9); n != 0 || e != api.ErrForm {
			t.Errorf("form %d: %d, %d", i, n, e)
		}
	}
	b := newBed(t, 60)
	b.put(space.Intent, 0, 1<<32-1, "\x00\x00\x01\x01")
	b.put(space.Intent, 1, 1, "of another first number")
	b.left(1)
	if n, e := intent.Step(b.x, 9); n != 0 || e != api.ErrForm {
		t.Error(n, e)
	}
}

// P18.2: of a child whose number is too great nothing is laid, and that is ErrForm.
func TestGreatKid(t *testing.T) {
	b := newBed(t, 60)
	b.tree(0)
	b.put(space.Kid, 1, api.MaxID+1, "")
	b.begin(1, true, 1)
	if n, e := intent.Step(b.x, 9); n != 0 || e != api.ErrForm {
		t.Error(n, e)
	}
	b.hasKeys(space.Stack, [3]any{1, 0, "\x00\x00\x01"}, [3]any{1, 1, ""})
}

// Every call ends: in a tree that is not sound a key may be seen that can't be deleted.
func TestUnsound(t *testing.T) {
	d, _ := disk.New(20)
	s, _ := shadow.Format(d)
	lay := func(n node.Node) int {
		text, e := node.Encode(n)
		page, _ := s.Take()
		if e != api.OK || s.Write(page, 2, text) != api.OK {
			t.Fatal(e)
		}
		return page
	}
	here := lay(node.Node{
		Leaf: true,
		Keys: []uint64{key(space.Intent, 0, 1), key(space.Stack, 1, 0), key(space.Stack, 1, 2)},
		Vals: []string{"\x00\x00\x09\x01", "\x00\x00\x09", "\x00\x00\x09"},
	})
	there := lay(node.Node{Leaf: true, Keys: []uint64{key(space.Meta, 0, 9)}, Vals: []string{""}})
	root := lay(node.Node{Keys: []uint64{key(space.Stack, 1, 2)}, Kids: []int{here, there}})
	if e := s.Commit(root); e != api.OK {
		t.Fatal(e)
	}
	if n, e := intent.Step(txn.Begin(s), 1); n != 0 || e != api.ErrForm {
		t.Error(n, e)
	}
}

// P18.3: with as many steps as are enough just what was revoked, and what is below, is gone.
func TestFollows(t *testing.T) {
	for seed := range int64(30) {
		r := rand.New(rand.NewSource(seed))
		b := newBed(t, 200)
		for range 40 {
			if id, e := capt.Derive(b.x, 1+r.Intn(40), 1, 7, 0, 0, 0); e != api.OK {
				capt.Mint(b.x, 1, 3, 7, 0, 0)
			} else {
				slot.Take(b.x, id, uint64(id))
			}
		}
		swept, gone := 0, 0
		for range 60 {
			switch r.Intn(6) {
			case 0:
				intent.Begin(b.x, 1+r.Intn(50), r.Intn(2) == 0)
			case 1, 2:
				capt.Derive(b.x, 1+r.Intn(50), 1, 7, 0, 0, 0)
			case 3:
				if capt.Remove(b.x, 1+r.Intn(50)) == api.OK {
					gone++
				}
			case 4:
				capt.Move(b.x, 1+r.Intn(50), 1+r.Intn(50), 0)
			case 5:
				n, e := intent.Step(b.x, r.Intn(4))
				if e != api.OK {
					t.Fatal(e)
				}
				swept += n
			}
		}
		var live []int
		for _, k := range b.keys(space.Cap) {
			if capt.State(b.x, k[1].(int), 0) == api.OK {
				live = append(live, k[1].(int))
			}
		}
		for n, e := intent.Step(b.x, 3); n > 0; n, e = intent.Step(b.x, 3) {
			if e != api.OK || n > 3 {
				t.Fatal(n, e)
			}
			swept += n
		}
		b.left(0)
		b.caps(live...)
		b.hasKeys(space.Stack)
		last, _ := capt.Number(b.x, 1)
		if o, _ := capt.OwnerOf(b.x, 1); o.Have != len(live) || last != len(live)+swept+gone {
			t.Error(o, len(live), last, swept, gone)
		}
	}
}

// The transaction's error goes ahead of all.
func TestTransactionError(t *testing.T) {
	b := newBed(t, 8)
	for n := uint64(0); b.x.Err() == api.OK; n++ {
		b.x.Put(n, strings.Repeat("x", 40))
	}
	for i, call := range []func() (int, api.Errno){
		func() (int, api.Errno) { return intent.Begin(b.x, 0, true) },
		func() (int, api.Errno) { return intent.Step(b.x, 0) },
		func() (int, api.Errno) { return intent.Left(b.x) },
	} {
		if n, e := call(); n != 0 || e != api.ErrFull {
			t.Error(i, n, e)
		}
	}
}
