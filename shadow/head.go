package shadow

import (
	"bailiwick/api"
	"bailiwick/bits"
	"bailiwick/disk"
	"bailiwick/num"
	"bailiwick/page"
)

// A head's text: the generation, the root, the used pages.
const (
	heads    = 2 // the sectors of heads; behind them the pages begin
	headKind = 1
	genSize  = 6
	rootSize = 2
	setSize  = 80
	lastGen  = 1<<48 - 1
)

// head says which pages count.
type head struct {
	gen, root int
	used      string
}

// place is the sector in which a head of this generation stands.
func place(gen int) int { return gen % heads }

// text writes a head. Its numbers have room, as counts and Commit see to.
func (h head) text() string {
	gen, _ := num.Put(uint64(h.gen), genSize)
	root, _ := num.Put(uint64(h.root), rootSize)
	return gen + root + h.used
}

// parse reads what text wrote.
func parse(text string) head {
	gen, rest, _ := num.Take(text, genSize)
	root, set, _ := num.Take(rest, rootSize)
	return head{gen: int(gen), root: int(root), used: set}
}

// counts tells if a head that stands in sector n of so many may be one.
func (h head) counts(n, size int) bool {
	if h.gen < 1 || place(h.gen) != n {
		return false
	}
	for i := range setSize * 8 {
		if bits.Has(h.used, i) && (i < heads || i >= size) {
			return false
		}
	}
	return h.root == 0 || bits.Has(h.used, h.root)
}

// readHead tells the head of sector n, if there is one that counts.
func readHead(d *disk.Disk, n int) (head, bool) {
	kind, text, e := page.Read(d, n)
	if e != api.OK || kind != headKind || len(text) != genSize+rootSize+setSize {
		return head{}, false
	}
	h := parse(text)
	return h, h.counts(n, d.Size())
}

// lastHead tells the head that counts, of the greater generation.
func lastHead(d *disk.Disk) (last head, found bool) {
	for n := range heads {
		if h, ok := readHead(d, n); ok && h.gen > last.gen {
			last, found = h, true
		}
	}
	return last, found
}

// writeHead puts a head into its sector, so that it lasts.
func writeHead(d *disk.Disk, h head) api.Errno {
	if e := page.Write(d, place(h.gen), headKind, h.text()); e != api.OK {
		return e
	}
	return d.Sync()
}
