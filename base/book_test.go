package base

import (
	"bytes"
	"crypto/aes"
	"crypto/cipher"
	"crypto/hmac"
	"crypto/sha256"
	"encoding/binary"
	"math/rand"
	"slices"
	"testing"

	"thimble/api"
	"thimble/dev"
	"thimble/ghost"
	"thimble/plan"
	"thimble/reg"
)

var zeroPage = make([]byte, 240)

// shape is a count of pages and a budget.
type shape struct{ pages, budget int }

// shapes are such by which a Commit of one page may be made: with one to three
// levels, heads of one to five blocks, and the budget at its ends.
var shapes = []shape{{1, 3}, {1, 4}, {16, 3}, {17, 5}, {20, 60}, {20, 61}, {128, 3}, {129, 4}, {300, 124}, {1025, 5}, {4096, 256}}

// narrow are shapes whose budget is below what a Commit of one page writes, by one.
var narrow = []shape{{1, 2}, {128, 2}, {129, 3}, {1024, 3}, {1025, 4}, {4096, 4}}

// noPlans are shapes of which there is no plan.
var noPlans = []shape{{0, 4}, {-1, 4}, {4097, 256}, {1 << 40, 4}, {1, 0}, {1, -1}, {1, 257}, {20, 1 << 40}, {0, 0}}

func planned(t testing.TB, s shape) api.Plan {
	t.Helper()
	p, e := plan.Of(s.pages, s.budget)
	if e != api.OK {
		t.Fatalf("plan.Of(%d, %d): %d", s.pages, s.budget, e)
	}
	return p
}

// blank makes a device of so many blocks, a blank register and a log.
func blank(t testing.TB, blocks int) (*dev.Device, *reg.Register, *ghost.Log) {
	t.Helper()
	d, e := dev.New(blocks)
	if e != api.OK {
		t.Fatalf("dev.New(%d): %d", blocks, e)
	}
	r, _ := reg.New(d)
	return d, r, ghost.New()
}

// made makes what a pool of this shape stands on, freshly formatted.
func made(t testing.TB, s shape) (*dev.Device, *reg.Register, *ghost.Log) {
	t.Helper()
	d, r, l := blank(t, planned(t, s).Total)
	if e := Format(d, r, api.Config{Pages: s.pages, Budget: s.budget}, l); e != api.OK {
		t.Fatalf("Format of %v: %d", s, e)
	}
	return d, r, l
}

// tupleOf is what a page under an entry is sealed with, by the library's own writing.
func tupleOf(x api.Entry, page int) api.Tuple {
	t := api.Tuple{Epoch: x.Epoch, Aad: binary.BigEndian.AppendUint32(nil, uint32(page))}
	binary.BigEndian.PutUint32(t.Nonce[:], x.Boot)
	binary.BigEndian.PutUint64(t.Nonce[4:], x.Seq)
	return t
}

// gcmOf is the library's cipher of an epoch.
func gcmOf(master []byte, wide bool, epoch uint32) cipher.AEAD {
	size := 16
	if wide {
		size = 32
	}
	h := hmac.New(sha256.New, master)
	h.Write([]byte("thimble"))
	h.Write(binary.BigEndian.AppendUint32(nil, epoch))
	h.Write([]byte{byte(size)})
	c, _ := aes.NewCipher(h.Sum(nil)[:size])
	g, _ := cipher.NewGCM(c)
	return g
}

// sealed is a page's block by the library.
func sealed(master []byte, wide bool, x api.Entry, page int, plain []byte) []byte {
	t := tupleOf(x, page)
	return gcmOf(master, wide, x.Epoch).Seal(nil, t.Nonce[:], plain, t.Aad)
}

// padded is a page's 240 bytes.
func padded(data []byte) []byte {
	b := make([]byte, 240)
	copy(b, data)
	return b
}

// digest is a block's, by the library.
func digest(block int, b []byte) [32]byte { return sha256.Sum256(input(block, b)) }

func input(block int, b []byte) []byte {
	return append(binary.BigEndian.AppendUint32([]byte{1}, uint32(block)), b...)
}

// headOf is a journal's head by the library, with whatever numbers in it.
func headOf(p api.Plan, version uint64, blocks []int) []byte {
	b := binary.BigEndian.AppendUint64(nil, version)
	b = binary.BigEndian.AppendUint32(b, uint32(len(blocks)))
	for _, block := range blocks {
		b = binary.BigEndian.AppendUint32(b, uint32(block))
	}
	return append(b, make([]byte, 256*p.Heads-len(b))...)
}

// markOf is a journal's mark by the library.
func markOf(head []byte, images [][]byte) [32]byte {
	return sha256.Sum256(slices.Concat([]byte{2}, head, bytes.Join(images, nil)))
}

// known tells whether the log has this input by its digest: if so, another input
// with that digest clashes with it.
func known(l *ghost.Log, in []byte) bool {
	other := append(slices.Clone(in), 0xaa)
	l.Note(other, sha256.Sum256(in))
	a, b, ok := l.Clash()
	return ok && bytes.Equal(a, in) && bytes.Equal(b, other)
}

// world is what stands in the pages, the counter blocks and the nodes, by the
// chapters' words and the library's ciphers and digests.
type world struct {
	plan    api.Plan
	master  []byte
	wide    bool
	entries []api.Entry
	texts   [][]byte
	blocks  [][]byte
	root    [32]byte
}

// newWorld is one whose pages were never sealed.
func newWorld(p api.Plan, master []byte, wide bool) *world {
	w := &world{plan: p, master: master, wide: wide, entries: make([]api.Entry, p.Pages), texts: make([][]byte, p.Pages), blocks: make([][]byte, p.Head)}
	for i := range w.blocks {
		w.blocks[i] = make([]byte, 256)
	}
	for i := range w.texts {
		w.texts[i] = zeroPage
	}
	w.grow()
	return w
}

// with is the world in which pages were sealed anew, in their order, with numbers
// from first on.
func (w *world) with(boot, epoch uint32, first uint64, texts map[int][]byte) *world {
	n := *w
	n.entries, n.texts, n.blocks = slices.Clone(w.entries), slices.Clone(w.texts), slices.Clone(w.blocks)
	for page := range n.texts {
		text, there := texts[page]
		if !there {
			continue
		}
		n.texts[page] = padded(text)
		n.entries[page] = api.Entry{Epoch: epoch, Boot: boot, Seq: first}
		n.blocks[page] = sealed(n.master, n.wide, n.entries[page], page, n.texts[page])
		first++
	}
	n.grow()
	return &n
}

// grow lays the counter blocks and the nodes above the pages.
func (w *world) grow() {
	for c := range w.plan.Counters {
		var b []byte
		for i := range 16 {
			var x api.Entry
			if page := 16*c + i; page < len(w.entries) {
				x = w.entries[page]
			}
			b = binary.BigEndian.AppendUint32(b, x.Epoch)
			b = binary.BigEndian.AppendUint32(b, x.Boot)
			b = binary.BigEndian.AppendUint64(b, x.Seq)
		}
		w.blocks[w.plan.Pages+c] = b
	}
	w.root = w.digestOf(len(w.plan.Levels), 0)
}

// digestOf lays what stands at a place of a level (0: the counter blocks), and all
// nodes below it.
func (w *world) digestOf(level, at int) [32]byte {
	first, many := w.plan.Pages, w.plan.Counters
	for i := range level {
		first, many = first+many, w.plan.Levels[i]
	}
	if at >= many {
		return [32]byte{}
	}
	if level > 0 {
		var node []byte
		for i := range 8 {
			d := w.digestOf(level-1, 8*at+i)
			node = append(node, d[:]...)
		}
		w.blocks[first+at] = node
	}
	return digest(first+at, w.blocks[first+at])
}

// state is what a register may hold of the world.
func (w *world) state(boot uint32, version uint64) api.State {
	return api.State{Pages: w.plan.Pages, Budget: w.plan.Budget, Wide: w.wide, Boot: boot, Version: version, Epoch: 1, Cursor: w.plan.Pages, Root: w.root}
}

// parts are the blocks in which n differs from w, rising: the images that make n of it.
func (w *world) parts(n *world) []int {
	var l []int
	for block := range w.blocks {
		if !bytes.Equal(w.blocks[block], n.blocks[block]) {
			l = append(l, block)
		}
	}
	return l
}

// images are what stands in these blocks.
func (w *world) images(blocks []int) [][]byte {
	var l [][]byte
	for _, block := range blocks {
		l = append(l, w.blocks[block])
	}
	return l
}

// lay stores the world on a device.
func (w *world) lay(t testing.TB, d *dev.Device) {
	t.Helper()
	for block, b := range w.blocks {
		write(t, d, block, b)
	}
	flush(t, d)
}

// stand holds that the world's blocks are what the device reads.
func (w *world) stand(t testing.TB, d *dev.Device) {
	t.Helper()
	for block, b := range w.blocks {
		reads(t, d, block, b)
	}
}

// told holds that each of these pages is told as it stands in the world.
func (w *world) told(t testing.TB, d *dev.Device, s api.State, pages ...int) {
	t.Helper()
	k := NewKeys(w.master, w.wide, nil)
	for _, page := range pages {
		if b, e := Read(d, s, k, nil, page); e != api.OK || !bytes.Equal(b, w.texts[page]) {
			t.Fatalf("Read(%d) = %x, %d, not %x", page, b, e, w.texts[page])
		}
	}
}

func write(t testing.TB, d *dev.Device, block int, b []byte) {
	t.Helper()
	if e := d.Write(block, b); e != api.OK {
		t.Fatalf("the device's Write(%d): %d", block, e)
	}
}

func flush(t testing.TB, d *dev.Device) {
	t.Helper()
	if e := d.Flush(); e != api.OK {
		t.Fatalf("the device's Flush: %d", e)
	}
}

func reads(t testing.TB, d *dev.Device, block int, want []byte) {
	t.Helper()
	if b, e := d.Read(block); e != api.OK || !bytes.Equal(b, want) {
		t.Fatalf("block %d reads %x, %d, not %x", block, b, e, want)
	}
}

// holds lets the register hold a state.
func holds(t testing.TB, r *reg.Register, s api.State) {
	t.Helper()
	if e := r.Write(s); e != api.OK {
		t.Fatalf("the register's Write of %v: %d", s, e)
	}
}

// isHeld holds that the register holds this.
func isHeld(t testing.TB, r *reg.Register, s api.State) {
	t.Helper()
	if r.Read() != s {
		t.Fatalf("the register holds %v, not %v", r.Read(), s)
	}
}

// sight is all that calls can tell of a device, a register and a log, but for the
// blocks' bytes while the power is off.
type sight struct {
	state                  api.State
	count, waits, written  int
	up                     bool
	hashed, sealed, opened int
	blocks                 [32]byte
	clash, forged, twice   bool
}

func look(d *dev.Device, r *reg.Register, l *ghost.Log) sight {
	s := sight{state: r.Read(), count: d.Count(), waits: d.Waits(), written: len(d.Written()), up: d.Up()}
	s.hashed, s.sealed, s.opened = l.Count()
	h := sha256.New()
	for block := range d.Blocks() {
		b, _ := d.Read(block)
		h.Write(b)
	}
	s.blocks = [32]byte(h.Sum(nil))
	_, _, s.clash = l.Clash()
	_, s.forged = l.Forged()
	_, _, s.twice = l.Twice()
	return s
}

// noise is so many bytes from a row.
func noise(g *rand.Rand, n int) []byte {
	b := make([]byte, n)
	g.Read(b)
	return b
}

// noisy fills a device with bytes of all kinds.
func noisy(t testing.TB, d *dev.Device, seed int64) {
	t.Helper()
	g := rand.New(rand.NewSource(seed))
	for block := range d.Blocks() {
		if e := d.Poke(block, 0, noise(g, 256)); e != api.OK {
			t.Fatalf("Poke(%d): %d", block, e)
		}
	}
}

// wrote holds that what was written behind the first ones is this, block by block.
func wrote(t testing.TB, d *dev.Device, from int, blocks []int, what [][]byte) {
	t.Helper()
	l := d.Written()[from:]
	if len(l) != len(blocks) {
		t.Fatalf("%d blocks were written, not %d", len(l), len(blocks))
	}
	for i, w := range l {
		if w.Block != blocks[i] || !bytes.Equal(w.Bytes, what[i]) {
			t.Fatalf("the write %d is of block %d, %x, not of %d, %x", i, w.Block, w.Bytes, blocks[i], what[i])
		}
	}
}

// rising is so many numbers from first on.
func rising(first, many int) []int {
	var l []int
	for i := range many {
		l = append(l, first+i)
	}
	return l
}

// cut lays bytes as blocks.
func cut(b []byte) [][]byte {
	var l [][]byte
	for ; len(b) > 0; b = b[256:] {
		l = append(l, b[:256])
	}
	return l
}
