package shadow_test

import (
	"fmt"
	"slices"
	"strings"
	"testing"

	"bailiwick/api"
	"bailiwick/bits"
	"bailiwick/disk"
	"bailiwick/num"
	"bailiwick/page"
	"bailiwick/shadow"
)

func newDisk(t *testing.T, sectors int) *disk.Disk {
	t.Helper()
	d, e := disk.New(sectors)
	if e != api.OK {
		t.Fatal(e)
	}
	return d
}

func format(t *testing.T, sectors int) (*disk.Disk, *shadow.Store) {
	t.Helper()
	d := newDisk(t, sectors)
	s, e := shadow.Format(d)
	if e != api.OK {
		t.Fatal(e)
	}
	return d, s
}

func take(t *testing.T, s *shadow.Store, want int) {
	t.Helper()
	if n, e := s.Take(); n != want || e != api.OK {
		t.Fatalf("Take() = %d, %d, not %d", n, e, want)
	}
}

func is(t *testing.T, what string, got, want api.Errno) {
	t.Helper()
	if got != want {
		t.Errorf("%s: %d, not %d", what, got, want)
	}
}

// headText is a head's text as the chapter says.
func headText(gen uint64, root int, used ...int) string {
	set := bits.New(640)
	for _, n := range used {
		set = bits.With(set, n, true)
	}
	a, _ := num.Put(gen, 6)
	b, _ := num.Put(uint64(root), 2)
	return a + b + set
}

func hold(t *testing.T, s *shadow.Store, gen, root int, used ...int) {
	t.Helper()
	if s.Gen() != gen || s.Root() != root || !slices.Equal(s.Used(), used) {
		t.Errorf("gen %d, root %d, used %v; not %d, %d, %v", s.Gen(), s.Root(), s.Used(), gen, root, used)
	}
}

// P9.1: what Format writes, and that it lasts.
func TestFormat(t *testing.T) {
	d, s := format(t, 10)
	hold(t, s, 1, 0)
	if s.Size() != 10 || s.Left() != 8 || !s.Up() || len(d.Loose()) != 0 {
		t.Error(s.Size(), s.Left(), s.Up(), d.Loose())
	}
	if kind, text, e := page.Read(d, 1); kind != 1 || text != headText(1, 0) || e != api.OK {
		t.Errorf("%d %x %d", kind, text, e)
	}
	if b, _ := d.Read(0); b != strings.Repeat("\x00", 256) {
		t.Error("sector 0 was written")
	}
	d.Fuse(0)
	if s, e := shadow.Format(d); s != nil || e != api.ErrDown {
		t.Error(e)
	}
	if s, e := shadow.Format(d); s != nil || e != api.ErrDown {
		t.Error(e)
	}
	if s, e := shadow.Mount(d); s != nil || e != api.ErrDown {
		t.Error(e)
	}
	d.Crash(nil)
	s, e := shadow.Mount(d)
	is(t, "Mount", e, api.OK)
	hold(t, s, 1, 0)
}

// P9.1: which heads count.
func TestMount(t *testing.T) {
	for i, c := range []struct {
		sector, kind int
		text         string
		ok           bool
	}{
		{1, 1, headText(1, 0), true},
		{1, 1, headText(3, 0, 2, 9), true},
		{1, 1, headText(1<<48-1, 2, 2), true},
		{0, 1, headText(2, 9, 9), true},
		{0, 1, headText(1, 0), false},
		{1, 1, headText(2, 0), false},
		{0, 1, headText(0, 0), false},
		{1, 2, headText(1, 0), false},
		{1, 1, headText(1, 0)[:87], false},
		{1, 1, headText(1, 0) + "\x00", false},
		{1, 1, headText(1, 0, 0), false},
		{1, 1, headText(1, 0, 1), false},
		{1, 1, headText(1, 0, 10), false},
		{1, 1, headText(1, 0, 639), false},
		{1, 1, headText(1, 3, 2), false},
		{1, 1, headText(1, 1), false},
		{1, 1, headText(1, 65535), false},
		{1, 1, "", false},
		{2, 1, headText(1, 0), false},
	} {
		d := newDisk(t, 10)
		page.Write(d, c.sector, c.kind, c.text)
		s, e := shadow.Mount(d)
		if c.ok && (e != api.OK || s == nil) || !c.ok && (e != api.ErrNone || s != nil) {
			t.Errorf("head %d: %d", i, e)
		}
	}
}

// P9.1: the greater generation counts, where both heads do.
func TestMountTwo(t *testing.T) {
	for _, c := range []struct{ zero, one, want int }{{2, 1, 2}, {2, 3, 3}, {4, 1, 4}, {2, 9, 9}} {
		d := newDisk(t, 8)
		page.Write(d, 0, 1, headText(uint64(c.zero), 5, 5))
		page.Write(d, 1, 1, headText(uint64(c.one), 6, 6))
		s, e := shadow.Mount(d)
		is(t, "Mount", e, api.OK)
		if s.Gen() != c.want || s.Root() != 5+c.want%2 {
			t.Error(c, s.Gen(), s.Root())
		}
	}
	d := newDisk(t, 8)
	page.Write(d, 0, 1, headText(4, 7))
	page.Write(d, 1, 1, headText(1, 6, 6))
	s, e := shadow.Mount(d)
	is(t, "Mount", e, api.OK)
	hold(t, s, 1, 6, 6)
	if _, e := shadow.Mount(newDisk(t, 8)); e != api.ErrNone {
		t.Error(e)
	}
}

// P9.2: pages are taken, the least first, till none is left.
func TestTake(t *testing.T) {
	_, s := format(t, 8)
	for n := 2; n < 8; n++ {
		if s.Fresh(n) || s.Left() != 8-n {
			t.Error(n, s.Left())
		}
		take(t, s, n)
		if !s.Fresh(n) {
			t.Error(n)
		}
	}
	if n, e := s.Take(); n != 0 || e != api.ErrFull {
		t.Error(n, e)
	}
	is(t, "Give", s.Give(5), api.OK)
	is(t, "Give", s.Give(3), api.OK)
	if s.Left() != 2 || s.Fresh(3) {
		t.Error(s.Left())
	}
	take(t, s, 3)
	take(t, s, 5)
	s.Rollback()
	if s.Left() != 6 || s.Fresh(2) {
		t.Error(s.Left())
	}
	take(t, s, 2)
	for _, n := range []int{-1, 0, 1, 8, 640, -1 << 63, 1<<63 - 1} {
		if s.Fresh(n) {
			t.Error(n)
		}
		is(t, "Give", s.Give(n), api.ErrState)
		is(t, "Write", s.Write(n, 2, ""), api.ErrState)
	}
}

// P9.2: just fresh pages are written; all but heads are read.
func TestReadWrite(t *testing.T) {
	d, s := format(t, 8)
	is(t, "Write", s.Write(2, 2, "a"), api.ErrState)
	take(t, s, 2)
	is(t, "Write", s.Write(2, 16, "a"), api.ErrArg)
	is(t, "Write", s.Write(2, 2, strings.Repeat("x", 241)), api.ErrArg)
	is(t, "Write", s.Write(2, 2, "a"), api.OK)
	if kind, text, e := s.Read(2); kind != 2 || text != "a" || e != api.OK {
		t.Error(kind, text, e)
	}
	if _, _, e := s.Read(3); e != api.ErrSum {
		t.Error(e)
	}
	for _, n := range []int{0, 1, -1, 8, -1 << 63, 1<<63 - 1} {
		if kind, text, e := s.Read(n); kind != 0 || text != "" || e != api.ErrArg {
			t.Error(n, e)
		}
	}
	is(t, "Commit", s.Commit(2), api.OK)
	is(t, "Write", s.Write(2, 2, "b"), api.ErrState)
	s, e := shadow.Mount(d)
	is(t, "Mount", e, api.OK)
	if kind, text, e := s.Read(2); kind != 2 || text != "a" || e != api.OK {
		t.Error(kind, text, e)
	}
}

// P9.2: what can be given, and how often.
func TestGive(t *testing.T) {
	_, s := format(t, 8)
	take(t, s, 2)
	take(t, s, 3)
	is(t, "Commit", s.Commit(2), api.OK)
	is(t, "Give", s.Give(2), api.OK)
	is(t, "Give", s.Give(2), api.ErrState)
	is(t, "Give", s.Give(4), api.ErrState)
	if s.Left() != 4 || !slices.Equal(s.Used(), []int{2, 3}) {
		t.Error(s.Left(), s.Used())
	}
	take(t, s, 4)
	s.Rollback()
	is(t, "Give", s.Give(2), api.OK)
	is(t, "Give", s.Give(4), api.ErrState)
}

// P9.3: the next head, its bytes, and which roots it may have.
func TestCommit(t *testing.T) {
	d, s := format(t, 8)
	for _, root := range []int{2, -1, 1, 8, 1 << 62} {
		is(t, "Commit", s.Commit(root), api.ErrArg)
	}
	take(t, s, 2)
	take(t, s, 3)
	take(t, s, 4)
	s.Give(3)
	is(t, "Commit", s.Commit(3), api.ErrArg)
	is(t, "Commit", s.Commit(4), api.OK)
	hold(t, s, 2, 4, 2, 4)
	if s.Fresh(2) || s.Left() != 4 || len(d.Loose()) != 0 {
		t.Error(s.Left(), d.Loose())
	}
	if kind, text, _ := page.Read(d, 0); kind != 1 || text != headText(2, 4, 2, 4) {
		t.Errorf("%d %x", kind, text)
	}
	s.Give(4)
	is(t, "Commit", s.Commit(4), api.ErrArg)
	hold(t, s, 2, 4, 2, 4)
	is(t, "Commit", s.Commit(2), api.OK)
	hold(t, s, 3, 2, 2)
	if _, text, _ := page.Read(d, 1); text != headText(3, 2, 2) {
		t.Errorf("%x", text)
	}
	is(t, "Give", s.Give(2), api.OK)
	is(t, "Commit", s.Commit(0), api.OK)
	hold(t, s, 4, 0)
	is(t, "Commit", s.Commit(0), api.OK)
	hold(t, s, 5, 0)
	used := s.Used()
	_ = append(used, 9)
}

// P9.3: the last generation.
func TestLastGen(t *testing.T) {
	d := newDisk(t, 8)
	page.Write(d, 0, 1, headText(1<<48-2, 0))
	s, _ := shadow.Mount(d)
	is(t, "Commit", s.Commit(0), api.OK)
	hold(t, s, 1<<48-1, 0)
	is(t, "Commit", s.Commit(5), api.ErrArg)
	take(t, s, 2)
	is(t, "Commit", s.Commit(2), api.ErrState)
	hold(t, s, 1<<48-1, 0)
	if !s.Fresh(2) {
		t.Error("changed by an error")
	}
}

// P9.2, P9.3: without power, once the disk has told so.
func TestDown(t *testing.T) {
	for _, tell := range []func(s *shadow.Store) api.Errno{
		func(s *shadow.Store) api.Errno { return s.Write(3, 2, "") },
		func(s *shadow.Store) api.Errno { _, _, e := s.Read(3); return e },
		func(s *shadow.Store) api.Errno { return s.Commit(0) },
	} {
		d, s := format(t, 8)
		take(t, s, 2)
		s.Commit(2)
		take(t, s, 3)
		d.Fuse(0)
		d.Write(7, strings.Repeat("x", 256))
		if !s.Up() {
			t.Error("the store was not told")
		}
		take(t, s, 4)
		is(t, "Give", s.Give(2), api.OK)
		is(t, "told", tell(s), api.ErrDown)
		d.Crash(nil)
		if s.Up() || s.Gen() != 2 || s.Size() != 8 {
			t.Error("up")
		}
		if n, e := s.Take(); n != 0 || e != api.ErrDown {
			t.Error(n, e)
		}
		is(t, "Write", s.Write(9, 0, ""), api.ErrDown)
		if _, _, e := s.Read(99); e != api.ErrDown {
			t.Error(e)
		}
		is(t, "Give", s.Give(99), api.ErrDown)
		is(t, "Commit", s.Commit(99), api.ErrDown)
		s.Rollback()
		if s.Fresh(3) || s.Left() != 5 {
			t.Error(s.Left())
		}
	}
}

// work does three commits; it tells which texts each head has, by generation.
func work(s *shadow.Store) map[int]string {
	texts := map[int]string{1: ""}
	root := 0
	for gen := 2; gen <= 4; gen++ {
		n, _ := s.Take()
		m, _ := s.Take()
		text := fmt.Sprint("text of ", gen)
		s.Write(n, 2, text)
		s.Write(m, 2, text+"!")
		s.Write(m, 2, text+"?")
		texts[gen] = text + text + "?"
		for _, old := range s.Used() {
			s.Give(old)
		}
		root = n
		if s.Commit(root) != api.OK {
			break
		}
	}
	return texts
}

func textOf(s *shadow.Store) string {
	all := ""
	for _, n := range s.Used() {
		_, text, _ := s.Read(n)
		all += text
	}
	return all
}

// P9.4: wherever the power goes, whatever is kept, the last head or the one under way is mounted with its texts.
func TestPower(t *testing.T) {
	for writes := range 20 {
		for keep := range 16 {
			d, s := format(t, 8)
			d.Fuse(writes)
			texts := work(s)
			last := s.Gen()
			d.Crash([]int{keep, keep >> 1, keep >> 2, keep >> 3})
			m, e := shadow.Mount(d)
			is(t, "Mount", e, api.OK)
			if m.Gen() != last && m.Gen() != last+1 {
				t.Fatal(writes, keep, last, m.Gen())
			}
			if got := textOf(m); got != texts[m.Gen()] {
				t.Fatal(writes, keep, last, m.Gen(), got)
			}
		}
	}
}
