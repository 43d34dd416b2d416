package disk_test

import (
	"slices"
	"strings"
	"testing"

	"bailiwick/api"
	"bailiwick/disk"
)

func sector(c string) string { return strings.Repeat(c, api.Sector) }

func made(t *testing.T, sectors int) *disk.Disk {
	t.Helper()
	d, e := disk.New(sectors)
	if e != api.OK {
		t.Fatal(e)
	}
	return d
}

func wrote(t *testing.T, d *disk.Disk, n int, c string) {
	t.Helper()
	if e := d.Write(n, sector(c)); e != api.OK {
		t.Fatalf("Write(%d): %d", n, e)
	}
}

func holds(t *testing.T, d *disk.Disk, n int, c string) {
	t.Helper()
	if s, e := d.Read(n); s != sector(c) || e != api.OK {
		t.Errorf("sector %d has %.3q, not %q (%d)", n, s, c, e)
	}
}

// P6.1: which disks there are.
func TestNew(t *testing.T) {
	for _, n := range []int{-1, 0, 7, 641, -1 << 63, 1<<63 - 1} {
		if d, e := disk.New(n); d != nil || e != api.ErrArg {
			t.Errorf("New(%d): %d", n, e)
		}
	}
	for _, n := range []int{8, 9, 640} {
		d := made(t, n)
		if d.Size() != n || !d.Up() || len(d.Loose()) != 0 {
			t.Errorf("New(%d)", n)
		}
		holds(t, d, 0, "\x00")
		holds(t, d, n-1, "\x00")
	}
}

// P6.1: reads and writes; what may not be is refused and changes nothing.
func TestReadWrite(t *testing.T) {
	d := made(t, 8)
	wrote(t, d, 7, "x")
	holds(t, d, 7, "x")
	wrote(t, d, 7, "y")
	holds(t, d, 7, "y")
	holds(t, d, 6, "\x00")
	for _, n := range []int{-1, 8, -1 << 63, 1<<63 - 1} {
		if s, e := d.Read(n); s != "" || e != api.ErrArg {
			t.Errorf("Read(%d): %d", n, e)
		}
		if e := d.Write(n, sector("z")); e != api.ErrArg {
			t.Errorf("Write(%d): %d", n, e)
		}
	}
	for _, s := range []string{"", "a", sector("z")[1:], sector("z") + "z"} {
		if e := d.Write(0, s); e != api.ErrArg {
			t.Errorf("Write of %d bytes: %d", len(s), e)
		}
	}
	holds(t, d, 0, "\x00")
	if got := d.Loose(); !slices.Equal(got, []int{7}) {
		t.Error(got)
	}
}

// P6.1: loose sectors, in the order in which they became so, till a Sync.
func TestLoose(t *testing.T) {
	d := made(t, 8)
	for _, n := range []int{5, 2, 5, 7, 2} {
		wrote(t, d, n, "a")
	}
	got := d.Loose()
	if !slices.Equal(got, []int{5, 2, 7}) {
		t.Error(got)
	}
	got[0] = 99
	_ = append(got[:1], 98)
	if again := d.Loose(); !slices.Equal(again, []int{5, 2, 7}) {
		t.Error(again)
	}
	if e := d.Sync(); e != api.OK || len(d.Loose()) != 0 {
		t.Error(e, d.Loose())
	}
	wrote(t, d, 2, "b")
	if got := d.Loose(); !slices.Equal(got, []int{2}) {
		t.Error(got)
	}
}

// P6.2: the fuse counts writes that are done; then the power is gone.
func TestFuse(t *testing.T) {
	d := made(t, 8)
	d.Fuse(2)
	wrote(t, d, 1, "a")
	if e := d.Write(8, sector("x")); e != api.ErrArg {
		t.Error(e)
	}
	if e := d.Write(1, "short"); e != api.ErrArg {
		t.Error(e)
	}
	if e := d.Sync(); e != api.OK {
		t.Error(e)
	}
	wrote(t, d, 2, "a")
	if !d.Up() {
		t.Error("down too early")
	}
	if e := d.Write(9, ""); e != api.ErrArg || !d.Up() {
		t.Error("a write that may not be burnt the fuse", e)
	}
	if e := d.Write(3, sector("a")); e != api.ErrDown || d.Up() {
		t.Error(e, d.Up())
	}
	if _, e := d.Read(1); e != api.ErrDown {
		t.Error(e)
	}
	if _, e := d.Read(99); e != api.ErrDown {
		t.Error(e)
	}
	if e := d.Write(99, ""); e != api.ErrDown {
		t.Error(e)
	}
	if e := d.Sync(); e != api.ErrDown {
		t.Error(e)
	}
	if got := d.Loose(); !slices.Equal(got, []int{2}) || d.Size() != 8 {
		t.Error(got)
	}
	d.Fuse(-1)
	if d.Up() {
		t.Error("up without a crash")
	}
	d.Crash([]int{1})
	holds(t, d, 1, "a")
	holds(t, d, 2, "a")
	holds(t, d, 3, "\x00")
}

// P6.2: a fuse of 0, and one that is taken away.
func TestFuseEdges(t *testing.T) {
	d := made(t, 8)
	d.Fuse(0)
	d.Fuse(-1 << 63)
	wrote(t, d, 1, "a")
	d.Fuse(0)
	if e := d.Write(1, sector("b")); e != api.ErrDown {
		t.Error(e)
	}
	d.Crash(nil)
	for range 5 {
		wrote(t, d, 1, "c")
	}
	d.Fuse(1<<63 - 1)
	wrote(t, d, 1, "d")
}

// P6.3: which loose sectors are kept.
func TestCrash(t *testing.T) {
	d := made(t, 8)
	for n := range 6 {
		wrote(t, d, n, "o")
	}
	d.Sync()
	for _, n := range []int{4, 3, 0, 1, 2, 4} {
		wrote(t, d, n, "x")
	}
	wrote(t, d, 4, "y")
	keep := []int{1, 2, -1, 0}
	d.Fuse(3)
	d.Crash(keep)
	holds(t, d, 4, "y")
	holds(t, d, 3, "o")
	holds(t, d, 0, "x")
	holds(t, d, 1, "o")
	holds(t, d, 2, "o")
	holds(t, d, 5, "o")
	if !slices.Equal(keep, []int{1, 2, -1, 0}) || len(d.Loose()) != 0 || !d.Up() {
		t.Error("crash", keep, d.Loose(), d.Up())
	}
	for range 5 {
		wrote(t, d, 4, "z")
	}
	d.Crash([]int{2, 1, 1, 1, 1, 1, 1, 1, 1})
	holds(t, d, 4, "y")
}

// P6.4: what was synced stays, and a sector is never mixed.
func TestSynced(t *testing.T) {
	d := made(t, 8)
	wrote(t, d, 3, "a")
	d.Sync()
	d.Crash(nil)
	holds(t, d, 3, "a")
	wrote(t, d, 3, "b")
	wrote(t, d, 3, "c")
	d.Crash([]int{0})
	holds(t, d, 3, "a")
	wrote(t, d, 3, "b")
	wrote(t, d, 3, "c")
	d.Crash([]int{3})
	holds(t, d, 3, "c")
	d.Crash(nil)
	holds(t, d, 3, "c")
}
