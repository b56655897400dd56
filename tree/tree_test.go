package tree

import (
	"bytes"
	"crypto/sha256"
	"encoding/binary"
	"math"
	"math/rand"
	"slices"
	"testing"

	"thimble/api"
	"thimble/ghost"
	"thimble/plan"
)

// wrongKids are numbers that no digest of a node has.
var wrongKids = []int{math.MinInt, math.MinInt + 1, math.MinInt + 7, math.MinInt32, -256, -32, -9, -8, -7, -1, 8, 9, 15, 16, 255, 256, 1 << 32, 1 << 58, 1<<59 + 1, math.MaxInt32, math.MaxInt - 7, math.MaxInt}

// wrongPages are numbers that no page has, whatever the plan.
var wrongPages = []int{math.MinInt, math.MinInt + 1, math.MinInt32, -4096, -16, -1, 4096, 4097, math.MaxInt32, math.MaxInt - 1, math.MaxInt}

// counts are counts of pages about which a counter block, a node or a level begins.
var counts = []int{1, 2, 15, 16, 17, 32, 127, 128, 129, 144, 145, 256, 257, 300, 1023, 1024, 1025, 1040, 1041, 2048, 2049, 4080, 4081, 4095, 4096}

// wrongLengths are lengths that no block has.
func wrongLengths() []int {
	var l []int
	for n := range 515 {
		if n != 256 {
			l = append(l, n)
		}
	}
	return append(l, 1<<16, 1<<16+256)
}

func made(t testing.TB, pages int) api.Plan {
	t.Helper()
	p, e := plan.Of(pages, 4)
	if e != api.OK {
		t.Fatalf("plan.Of(%d, 4): %d", pages, e)
	}
	return p
}

// input is what a block's digest is made of, by the library's own writing.
func input(block int, b []byte) []byte {
	return append(binary.BigEndian.AppendUint32([]byte{1}, uint32(block)), b...)
}

func digest(block int, b []byte) [32]byte { return sha256.Sum256(input(block, b)) }

// random is a block of bytes from a fixed row.
func random(g *rand.Rand) []byte {
	b := make([]byte, 256)
	g.Read(b)
	return b
}

// counters are as many counter blocks as the plan has.
func counters(p api.Plan, seed int64) [][]byte {
	g := rand.New(rand.NewSource(seed))
	l := make([][]byte, p.Counters)
	for i := range l {
		l[i] = random(g)
	}
	return l
}

// copies shares no memory with l.
func copies(l [][]byte) [][]byte {
	var c [][]byte
	for _, b := range l {
		c = append(c, slices.Clone(b))
	}
	return c
}

func same(a, b [][]byte) bool { return slices.EqualFunc(a, b, bytes.Equal) }

// book goes the chapter's words, from the top down: what stands in a node is
// what stands below it, asked for child by child.
type book struct {
	plan     api.Plan
	counters [][]byte
	blocks   map[int][]byte // what stands in each block of the tree
	root     [32]byte
}

func newBook(p api.Plan, counters [][]byte) *book {
	b := &book{plan: p, counters: counters, blocks: make(map[int][]byte)}
	b.root = b.stand(len(p.Levels), 0)
	return b
}

// stand lays what stands at a place of a level (0: the counter blocks), and all
// below it, and tells its digest.
func (b *book) stand(level, at int) [32]byte {
	first, many := b.plan.Pages, b.plan.Counters
	for i := range level {
		first, many = first+many, b.plan.Levels[i]
	}
	if at >= many {
		return [32]byte{}
	}
	var s []byte
	if level == 0 {
		s = b.counters[at]
	} else {
		for i := range 8 {
			d := b.stand(level-1, 8*at+i)
			s = append(s, d[:]...)
		}
	}
	b.blocks[first+at] = s
	return digest(first+at, s)
}

// nodes are those of the book, by rising numbers of their blocks.
func (b *book) nodes() [][]byte {
	var l [][]byte
	for i := range b.plan.Nodes {
		l = append(l, b.blocks[b.plan.Pages+b.plan.Counters+i])
	}
	return l
}

// path is what stands in the blocks above a page; not the book's own memory.
func (b *book) path(t testing.TB, page int) [][]byte {
	t.Helper()
	blocks, e := plan.Path(b.plan, page)
	if e != api.OK {
		t.Fatalf("%d pages: plan.Path(%d): %d", b.plan.Pages, page, e)
	}
	var l [][]byte
	for _, n := range blocks {
		l = append(l, slices.Clone(b.blocks[n]))
	}
	return l
}

// sealUp makes the path one that is right from the block at from on: each node
// above it has its digest, and the root is what comes out.
func sealUp(t testing.TB, p api.Plan, page int, path [][]byte, from int) [32]byte {
	t.Helper()
	blocks, _ := plan.Path(p, page)
	for i := from; i < len(path)-1; i++ {
		place, e := plan.Parent(p, blocks[i])
		if e != api.OK {
			t.Fatalf("plan.Parent(%d): %d", blocks[i], e)
		}
		d := digest(blocks[i], path[i])
		copy(path[i+1][32*place.At:], d[:])
	}
	return digest(blocks[len(path)-1], path[len(path)-1])
}

// noted tells how many pairs a log has.
func noted(l *ghost.Log) int {
	n, _, _ := l.Count()
	return n
}

// known tells whether the log has this input by its digest: if so, another input
// with that digest clashes with it.
func known(l *ghost.Log, in []byte) bool {
	other := append(slices.Clone(in), 0xaa)
	l.Note(other, sha256.Sum256(in))
	a, b, ok := l.Clash()
	return ok && bytes.Equal(a, in) && bytes.Equal(b, other)
}

// The chapter's example.
func TestExample(t *testing.T) {
	p := made(t, 1)
	zero := make([]byte, 256)
	nodes, root, e := Build(ghost.New(), p, [][]byte{zero})
	if e != api.OK || len(nodes) != 1 {
		t.Fatalf("Build = %x, %d", nodes, e)
	}
	first := sha256.Sum256(append([]byte{1, 0, 0, 0, 1}, zero...))
	want := append(first[:], make([]byte, 224)...)
	if !bytes.Equal(nodes[0], want) {
		t.Errorf("the node is %x", nodes[0])
	}
	if root != sha256.Sum256(append([]byte{1, 0, 0, 0, 2}, want...)) {
		t.Errorf("the root is %x", root)
	}
	if e := Check(nil, p, 0, [][]byte{zero, want}, root); e != api.OK {
		t.Errorf("Check: %d", e)
	}
}

// P18.1: Digest of bytes of any length, as any block; it is noted.
func TestDigest(t *testing.T) {
	g := rand.New(rand.NewSource(1))
	blocks := []int{0, 1, 2, 127, 128, 255, 256, 257, 4096, 65535, 65536, 1 << 24, math.MaxInt32, 1 << 31, math.MaxUint32}
	for _, n := range []int{0, 1, 31, 32, 50, 51, 59, 60, 64, 255, 256, 257, 512, 5000} {
		b := make([]byte, n)
		g.Read(b)
		for _, block := range blocks {
			l := ghost.New()
			if d := Digest(l, block, b); d != digest(block, b) {
				t.Fatalf("Digest(%d, %d bytes) = %x", block, n, d)
			}
			if noted(l) != 1 || !known(l, input(block, b)) {
				t.Fatalf("Digest(%d, %d bytes) wasn't noted", block, n)
			}
			if d := Digest(nil, block, b); d != digest(block, b) {
				t.Fatalf("Digest(%d, %d bytes) without a log = %x", block, n, d)
			}
		}
	}
	if Digest(nil, 7, nil) != sha256.Sum256([]byte{1, 0, 0, 0, 7}) || Digest(nil, 7, []byte{}) != Digest(nil, 7, nil) {
		t.Error("Digest of nothing")
	}
	if Digest(nil, 0x01020304, []byte("abc")) != sha256.Sum256([]byte("\x01\x01\x02\x03\x04abc")) {
		t.Error("Digest by hand")
	}
}

// P18.1: of the block's number the lowest 32 bits count, and each of them does.
func TestDigestNumber(t *testing.T) {
	b := bytes.Repeat([]byte{9}, 256)
	for block, as := range map[int]uint32{
		-1: math.MaxUint32, -2: math.MaxUint32 - 1, math.MinInt: 0, math.MinInt + 5: 5, math.MinInt32: 1 << 31,
		math.MaxInt: math.MaxUint32, 1 << 32: 0, 1<<32 + 77: 77, -1 << 32: 0, 5<<40 + 0x01020304: 0x01020304,
	} {
		if d := Digest(nil, block, b); d != digest(int(as), b) {
			t.Errorf("Digest(%d) isn't that of %d", block, as)
		}
	}
	for bit := range 64 {
		turned := Digest(nil, 300^(1<<bit), b) != Digest(nil, 300, b)
		if turned != (bit < 32) {
			t.Errorf("bit %d of the number: %v", bit, turned)
		}
	}
}

// P18.1: each digest of a node, and each other one laid there.
func TestKid(t *testing.T) {
	g := rand.New(rand.NewSource(2))
	for range 200 {
		node := random(g)
		for i := range 8 {
			d, e := Kid(node, i)
			if e != api.OK || !bytes.Equal(d[:], node[32*i:32*i+32]) {
				t.Fatalf("Kid(%x, %d) = %x, %d", node, i, d, e)
			}
			var other [32]byte
			g.Read(other[:])
			want := slices.Concat(node[:32*i], other[:], node[32*i+32:])
			out, e := SetKid(node, i, other)
			if e != api.OK || !bytes.Equal(out, want) {
				t.Fatalf("SetKid(%x, %d, %x) = %x, %d", node, i, other, out, e)
			}
			for j := range 8 {
				if d, e := Kid(out, j); e != api.OK || !bytes.Equal(d[:], want[32*j:32*j+32]) {
					t.Fatalf("Kid(%d) behind SetKid(%d) = %x, %d", j, i, d, e)
				}
			}
			if out, e := SetKid(node, i, d); e != api.OK || !bytes.Equal(out, node) {
				t.Fatalf("SetKid of what was there: %x, %d", out, e)
			}
		}
	}
}

// refusal holds that both calls on node and i answer this error and nothing beside it.
func refusal(t *testing.T, node []byte, i int, want api.Errno) {
	t.Helper()
	if d, e := Kid(node, i); e != want || d != [32]byte{} {
		t.Fatalf("Kid(%d bytes, %d) = %x, %d, not %d", len(node), i, d, e, want)
	}
	if b, e := SetKid(node, i, [32]byte{1}); e != want || b != nil {
		t.Fatalf("SetKid(%d bytes, %d) = %x, %d, not %d", len(node), i, b, e, want)
	}
}

// P18.1: what hasn't 256 bytes is told first, wherever i is; then a wrong i.
func TestKidWrong(t *testing.T) {
	for _, n := range wrongLengths() {
		for _, i := range append([]int{0, 1, 6, 7}, wrongKids...) {
			refusal(t, bytes.Repeat([]byte{5}, n), i, api.ErrForm)
		}
	}
	refusal(t, nil, 0, api.ErrForm)
	for _, i := range wrongKids {
		refusal(t, bytes.Repeat([]byte{5}, 256), i, api.ErrArg)
	}
}

// P18.2: nodes and root against the book; each block's digest is made once, by the log.
func TestBuild(t *testing.T) {
	for _, pages := range counts {
		p := made(t, pages)
		for seed := range int64(3) {
			b := newBook(p, counters(p, seed))
			log := ghost.New()
			for _, l := range []*ghost.Log{log, nil} {
				nodes, root, e := Build(l, p, b.counters)
				if e != api.OK || !same(nodes, b.nodes()) || root != b.root {
					t.Fatalf("%d pages: Build = %d nodes, %x, %d", pages, len(nodes), root, e)
				}
			}
			if n := noted(log); n != p.Counters+p.Nodes {
				t.Fatalf("%d pages: %d digests were made, not %d", pages, n, p.Counters+p.Nodes)
			}
			if _, _, ok := log.Clash(); ok {
				t.Fatalf("%d pages: a clash", pages)
			}
		}
	}
}

// P18.2: each digest that Build makes is the log's.
func TestBuildNotes(t *testing.T) {
	for _, pages := range []int{1, 17, 129, 300} {
		p := made(t, pages)
		b := newBook(p, counters(p, 5))
		for block, s := range b.blocks {
			l := ghost.New()
			if _, _, e := Build(l, p, b.counters); e != api.OK || !known(l, input(block, s)) {
				t.Fatalf("%d pages: the digest of block %d wasn't noted: %d", pages, block, e)
			}
		}
	}
}

// P18.2: by hand, nodes of two levels, the last one of the lowest with one child.
func TestBuildByHand(t *testing.T) {
	p := made(t, 129) // blocks 129 to 137, then 138, 139, then 140
	c := counters(p, 6)
	var low, next, top []byte
	for i := range 8 {
		d := digest(129+i, c[i])
		low = append(low, d[:]...)
	}
	d := digest(137, c[8])
	next = append(d[:], make([]byte, 224)...)
	one, two := digest(138, low), digest(139, next)
	top = slices.Concat(one[:], two[:], make([]byte, 192))
	nodes, root, e := Build(nil, p, c)
	if e != api.OK || !same(nodes, [][]byte{low, next, top}) || root != digest(140, top) {
		t.Fatalf("Build = %x, %x, %d", nodes, root, e)
	}
}

// P18.2: counter blocks that are alike have unlike digests, as they stand elsewhere.
func TestBuildAlike(t *testing.T) {
	p := made(t, 4096)
	c := make([][]byte, p.Counters)
	for i := range c {
		c[i] = make([]byte, 256)
	}
	nodes, root, e := Build(nil, p, c)
	if e != api.OK {
		t.Fatal(e)
	}
	seen := map[[32]byte]int{root: -1}
	for n, node := range nodes {
		for i := range 8 {
			d, _ := Kid(node, i)
			if other, twice := seen[d]; twice && d != [32]byte{} {
				t.Fatalf("node %d has the digest %x at %d, as node %d", n, d, i, other)
			}
			seen[d] = n
		}
	}
}

// P18.2: one bit of one counter block turns the nodes above it, the root, and nothing else.
func TestBuildTurned(t *testing.T) {
	p := made(t, 1100)
	c := counters(p, 7)
	nodes, root, _ := Build(nil, p, c)
	for i := range c {
		c[i][i%256] ^= 1 << (i % 8)
		turned, other, e := Build(nil, p, c)
		if e != api.OK || other == root {
			t.Fatalf("counter block %d: the root stays: %d", i, e)
		}
		path, _ := plan.Path(p, 16*i)
		for n := range nodes {
			if on := slices.Contains(path, p.Pages+p.Counters+n); on == bytes.Equal(nodes[n], turned[n]) {
				t.Fatalf("counter block %d: node %d", i, n)
			}
		}
		c[i][i%256] ^= 1 << (i % 8)
	}
}

// refusedBuild holds that Build answers this error, nothing beside it, and leaves no trace.
func refusedBuild(t *testing.T, p api.Plan, c [][]byte, want api.Errno) {
	t.Helper()
	l := ghost.New()
	nodes, root, e := Build(l, p, c)
	if e != want || nodes != nil || root != [32]byte{} || noted(l) != 0 {
		t.Fatalf("%d pages, %d counter blocks: Build = %d nodes, %x, %d, not %d; %d noted", p.Pages, len(c), len(nodes), root, e, want, noted(l))
	}
}

// P18.2: too few, too many, also of lengths that are wrong.
func TestBuildCount(t *testing.T) {
	for _, pages := range counts {
		p := made(t, pages)
		for _, many := range []int{0, 1, 2, 8, 9, 16, p.Counters - 1, p.Counters + 1, p.Counters + 8, 2 * p.Counters, p.Nodes, p.Pages, p.Total, 257} {
			if many == p.Counters {
				continue
			}
			c := make([][]byte, many)
			refusedBuild(t, p, c, api.ErrArg)
			for i := range c {
				c[i] = make([]byte, 256)
			}
			refusedBuild(t, p, c, api.ErrArg)
		}
		refusedBuild(t, p, nil, api.ErrArg)
	}
}

// P18.2: one of another length, wherever it stands.
func TestBuildLength(t *testing.T) {
	for _, pages := range []int{1, 17, 300} {
		p := made(t, pages)
		for i := range p.Counters {
			for _, n := range wrongLengths() {
				c := counters(p, 1)
				c[i] = make([]byte, n)
				refusedBuild(t, p, c, api.ErrForm)
			}
			c := counters(p, 1)
			c[i] = nil
			refusedBuild(t, p, c, api.ErrForm)
		}
	}
}

// P18.3: the path of each page is taken, and its digests are the log's.
func TestCheck(t *testing.T) {
	for _, pages := range counts {
		p := made(t, pages)
		b := newBook(p, counters(p, 3))
		for page := range pages {
			path := b.path(t, page)
			l := ghost.New()
			if e := Check(l, p, page, path, b.root); e != api.OK {
				t.Fatalf("%d pages: Check(%d): %d", pages, page, e)
			}
			if n := noted(l); n != len(path) {
				t.Fatalf("%d pages: Check(%d) made %d digests, not %d", pages, page, n, len(path))
			}
			if e := Check(nil, p, page, path, b.root); e != api.OK {
				t.Fatalf("%d pages: Check(%d) without a log: %d", pages, page, e)
			}
		}
	}
}

// P18.2, P18.3: what Build makes, Check takes.
func TestBuildCheck(t *testing.T) {
	for _, pages := range counts {
		p := made(t, pages)
		c := counters(p, 4)
		l := ghost.New()
		nodes, root, e := Build(l, p, c)
		if e != api.OK {
			t.Fatal(e)
		}
		all := slices.Concat(c, nodes)
		for page := 0; page < pages; page += 1 + pages/50 {
			blocks, _ := plan.Path(p, page)
			var path [][]byte
			for _, n := range blocks {
				path = append(path, all[n-pages])
			}
			if e := Check(l, p, page, path, root); e != api.OK {
				t.Fatalf("%d pages: Check(%d): %d", pages, page, e)
			}
		}
		if _, _, ok := l.Clash(); ok {
			t.Fatalf("%d pages: a clash", pages)
		}
	}
}

// refusedCheck holds that Check answers this error, and leaves no trace.
func refusedCheck(t *testing.T, p api.Plan, page int, path [][]byte, root [32]byte, want api.Errno) {
	t.Helper()
	l := ghost.New()
	if e := Check(l, p, page, path, root); e != want || noted(l) != 0 {
		t.Fatalf("%d pages: Check(%d, %d blocks) = %d, not %d; %d noted", p.Pages, page, len(path), e, want, noted(l))
	}
}

// P18.3: a page that isn't there, whatever the path.
func TestCheckPage(t *testing.T) {
	for _, pages := range counts {
		p := made(t, pages)
		b := newBook(p, counters(p, 3))
		path := b.path(t, pages-1)
		for _, page := range append([]int{pages, pages + 1, p.Head, p.Total}, wrongPages...) {
			if page >= 0 && page < pages {
				continue
			}
			refusedCheck(t, p, page, path, b.root, api.ErrArg)
			refusedCheck(t, p, page, path[1:], b.root, api.ErrArg)
			refusedCheck(t, p, page, nil, b.root, api.ErrArg)
			refusedCheck(t, p, page, make([][]byte, len(path)), [32]byte{}, api.ErrArg)
		}
	}
}

// P18.3: too few blocks, too many, one of another length: told ahead of what
// stands in them.
func TestCheckForm(t *testing.T) {
	for _, pages := range []int{1, 20, 300, 1025, 4096} {
		p := made(t, pages)
		b := newBook(p, counters(p, 3))
		for _, page := range []int{0, pages / 2, pages - 1} {
			path := b.path(t, page)
			top := path[len(path)-1]
			refusedCheck(t, p, page, nil, b.root, api.ErrForm)
			refusedCheck(t, p, page, [][]byte{}, b.root, api.ErrForm)
			refusedCheck(t, p, page, path[1:], b.root, api.ErrForm)
			refusedCheck(t, p, page, path[:len(path)-1], b.root, api.ErrForm)
			refusedCheck(t, p, page, [][]byte{top}, b.root, api.ErrForm)
			refusedCheck(t, p, page, append(copies(path), top), b.root, api.ErrForm)
			refusedCheck(t, p, page, append([][]byte{path[0]}, path...), b.root, api.ErrForm)
			refusedCheck(t, p, page, make([][]byte, 100), b.root, api.ErrForm)
			for i := range path {
				for _, n := range wrongLengths() {
					wrong := b.path(t, page)
					wrong[0][0] ^= 1
					wrong[i] = append(wrong[i], make([]byte, n)...)[:n]
					refusedCheck(t, p, page, wrong, [32]byte{}, api.ErrForm)
				}
			}
		}
	}
}

// P18.3: each byte of each block, and of the root, turned.
func TestCheckTurned(t *testing.T) {
	for _, pages := range []int{1, 20, 300, 4096} {
		p := made(t, pages)
		b := newBook(p, counters(p, 3))
		page := pages * 2 / 3
		for i := range b.path(t, page) {
			for at := range 256 {
				path := b.path(t, page)
				path[i][at] ^= 1 << (at % 8)
				refusedCheck(t, p, page, path, b.root, api.ErrCorrupt)
			}
		}
		for bit := range 256 {
			root := b.root
			root[bit/8] ^= 1 << (bit % 8)
			refusedCheck(t, p, page, b.path(t, page), root, api.ErrCorrupt)
		}
		refusedCheck(t, p, page, b.path(t, page), [32]byte{}, api.ErrCorrupt)
	}
}

// P18.3: one link of the path alone is wrong, all above it and the root are right.
func TestCheckOneLink(t *testing.T) {
	for _, pages := range []int{1, 20, 300, 1025, 4096} {
		p := made(t, pages)
		b := newBook(p, counters(p, 3))
		for _, page := range []int{0, pages / 3, pages - 1} {
			for i := range b.path(t, page) {
				path := b.path(t, page)
				path[i][255] ^= 128
				refusedCheck(t, p, page, path, b.root, api.ErrCorrupt)
				if root := sealUp(t, p, page, path, i+1); i+1 < len(path) {
					refusedCheck(t, p, page, path, root, api.ErrCorrupt)
				}
				root := sealUp(t, p, page, path, max(0, i-1))
				if e := Check(nil, p, page, path, root); e != api.OK {
					t.Fatalf("%d pages: Check(%d) of another tree: %d", pages, page, e)
				}
			}
		}
	}
}

// P18.3: a node that has the digest of what is below it, but at another place.
func TestCheckPlace(t *testing.T) {
	for _, pages := range []int{20, 300, 4096} {
		p := made(t, pages)
		b := newBook(p, counters(p, 3))
		for _, page := range []int{0, pages / 2, pages - 1} {
			blocks, _ := plan.Path(p, page)
			for i := 0; i+1 < len(blocks); i++ {
				place, _ := plan.Parent(p, blocks[i])
				for at := range 8 {
					if at == place.At {
						continue
					}
					path := b.path(t, page)
					right, there := path[i+1][32*place.At:][:32], path[i+1][32*at:][:32]
					for j := range 32 {
						right[j], there[j] = there[j], right[j]
					}
					refusedCheck(t, p, page, path, sealUp(t, p, page, path, i+1), api.ErrCorrupt)
				}
			}
		}
	}
}

// P18.3: a path is taken of those pages alone that have its counter block; all
// pages of it have one path.
func TestCheckOtherPages(t *testing.T) {
	for _, pages := range []int{17, 129, 300} {
		p := made(t, pages)
		b := newBook(p, counters(p, 3))
		for _, of := range []int{0, pages / 2, pages - 1} {
			path := b.path(t, of)
			for page := range pages {
				want := api.ErrCorrupt
				if page/16 == of/16 {
					want = api.OK
				}
				if e := Check(nil, p, page, path, b.root); e != want {
					t.Fatalf("%d pages: Check(%d) of %d's path: %d, not %d", pages, page, of, e, want)
				}
			}
		}
	}
}

// P18.3: blocks of a path in another order, and the blocks of an elder tree.
func TestCheckElder(t *testing.T) {
	p := made(t, 1100)
	elder := newBook(p, counters(p, 3))
	b := newBook(p, counters(p, 4))
	for _, page := range []int{0, 500, 1099} {
		path := b.path(t, page)
		slices.Reverse(path)
		refusedCheck(t, p, page, path, b.root, api.ErrCorrupt)
		refusedCheck(t, p, page, elder.path(t, page), b.root, api.ErrCorrupt)
		refusedCheck(t, p, page, b.path(t, page), elder.root, api.ErrCorrupt)
		for i := range path {
			mixed := append(elder.path(t, page)[:i], b.path(t, page)[i:]...)
			if i > 0 {
				refusedCheck(t, p, page, mixed, b.root, api.ErrCorrupt)
			}
			refusedCheck(t, p, page, mixed, elder.root, api.ErrCorrupt)
		}
	}
}

// P18.3: the same bytes under plans of other counts: their blocks have other numbers.
func TestCheckOtherPlan(t *testing.T) {
	p, q := made(t, 20), made(t, 21)
	b := newBook(p, counters(p, 3))
	refusedCheck(t, q, 3, b.path(t, 3), b.root, api.ErrCorrupt)
	wide, _ := plan.Of(20, 256)
	if e := Check(nil, wide, 3, b.path(t, 3), b.root); e != api.OK {
		t.Errorf("Check by another budget: %d", e)
	}
}

// P18.4: all that Check takes is noted, block by block, with its number: so one
// of another path with the same digest would clash with it, ahead of it or behind it.
func TestCheckNotes(t *testing.T) {
	for _, pages := range []int{1, 20, 300, 1025, 4096} {
		p := made(t, pages)
		b := newBook(p, counters(p, 3))
		for _, page := range []int{0, pages / 2, pages - 1} {
			path := b.path(t, page)
			blocks, _ := plan.Path(p, page)
			for i, block := range blocks {
				l := ghost.New()
				if e := Check(l, p, page, path, b.root); e != api.OK || !known(l, input(block, path[i])) {
					t.Fatalf("%d pages: Check(%d) = %d: block %d isn't noted", pages, page, e, block)
				}
				other := input(block, make([]byte, 256))
				l = ghost.New()
				l.Note(other, digest(block, path[i]))
				if e := Check(l, p, page, path, b.root); e != api.OK {
					t.Fatal(e)
				}
				if x, y, ok := l.Clash(); !ok || !bytes.Equal(x, other) || !bytes.Equal(y, input(block, path[i])) {
					t.Fatalf("%d pages: Check(%d): Clash = %x, %x, %v", pages, page, x, y, ok)
				}
			}
		}
	}
}

// P18.4: of many paths that are near to the right one, Check takes that one alone.
func TestCheckOnlyOne(t *testing.T) {
	for seed := range int64(4000) {
		g := rand.New(rand.NewSource(seed))
		p := made(t, 1+g.Intn(4096)>>g.Intn(12))
		page := g.Intn(p.Pages)
		path := make([][]byte, len(p.Levels)+1)
		for i := range path {
			path[i] = random(g)
		}
		root := sealUp(t, p, page, path, 0)
		other := copies(path)
		for range 1 + g.Intn(3) {
			b := other[g.Intn(len(other))]
			switch g.Intn(3) {
			case 0:
				b[g.Intn(256)] ^= byte(g.Intn(256))
			case 1:
				copy(b, path[g.Intn(len(path))])
			default:
				copy(b[32*g.Intn(8):], b[32*g.Intn(8):][:32])
			}
		}
		sealUp(t, p, page, other, g.Intn(len(other)))
		l := ghost.New()
		if e := Check(l, p, page, path, root); e != api.OK {
			t.Fatalf("seed %d: %d", seed, e)
		}
		e := Check(l, p, page, other, root)
		if taken := e == api.OK; taken != same(path, other) || !taken && e != api.ErrCorrupt {
			t.Fatalf("seed %d: Check = %d, the same: %v", seed, e, same(path, other))
		}
	}
}

// R4: what is answered is new memory, and no two parts of an answer share any.
func TestNewMemory(t *testing.T) {
	p := made(t, 300)
	c := counters(p, 3)
	kept := copies(c)
	nodes, root, _ := Build(nil, p, c)
	whole := copies(nodes)
	for n, node := range nodes {
		room := node[:cap(node)]
		for i := range room {
			room[i] ^= 255
		}
		for m := range nodes {
			if m != n && !bytes.Equal(nodes[m], whole[m]) {
				t.Fatalf("nodes %d and %d share memory", n, m)
			}
		}
		nodes[n] = slices.Clone(whole[n])
	}
	if again, r, _ := Build(nil, p, c); !same(c, kept) || !same(again, whole) || r != root {
		t.Fatal("Build's answer shares memory with what was handed in")
	}
	for i := range 8 {
		node := slices.Clone(whole[0])
		first, _ := SetKid(node, i, [32]byte{1})
		second, _ := SetKid(node, i, [32]byte{1})
		was := slices.Clone(second)
		for j := range first {
			first[j] ^= 255
		}
		if !bytes.Equal(node, whole[0]) || !bytes.Equal(second, was) {
			t.Fatalf("the answers of SetKid at %d share memory", i)
		}
	}
}

// R4: neither what is handed in changes, nor the room behind it, which isn't
// read either; what is changed behind a call changes nothing that the log has.
func TestHandedIn(t *testing.T) {
	p := made(t, 20)
	b := newBook(p, counters(p, 3))
	one := append(slices.Concat(b.counters...), bytes.Repeat([]byte{0xee}, 300)...)
	list := append([][]byte{one[:256], one[256:512]}, b.path(t, 0)...)
	wasOne, wasList := slices.Clone(one), copies(list)
	hold := func(what string) {
		t.Helper()
		if !bytes.Equal(one, wasOne) || !same(list, wasList) {
			t.Fatalf("%s changed what was handed in", what)
		}
	}
	l := ghost.New()
	if nodes, root, e := Build(l, p, list[:2]); e != api.OK || !same(nodes, b.nodes()) || root != b.root {
		t.Fatalf("Build = %x, %x, %d", nodes, root, e)
	}
	hold("Build")
	path := append(b.path(t, 0), list...)
	wasPath := copies(path)
	if e := Check(l, p, 0, path[:2], b.root); e != api.OK {
		t.Fatalf("Check: %d", e)
	}
	if e := Check(l, p, 0, path[:1], b.root); e != api.ErrForm || !same(path, wasPath) {
		t.Fatalf("Check of one block: %d", e)
	}
	if d := Digest(l, 20, one[:256]); d != digest(20, wasOne[:256]) {
		t.Fatalf("Digest = %x", d)
	}
	for _, n := range []int{0, 255, 256, 257} {
		Kid(one[:n], 7)
		if out, _ := SetKid(one[:n], 7, [32]byte{1}); len(out) > 256 {
			t.Fatalf("SetKid of %d bytes has %d", n, len(out))
		}
		hold("SetKid")
	}
	clear(one)
	if !known(l, input(20, wasOne[:256])) {
		t.Error("the log lost what was hashed")
	}
}

// R1: plans that plan.Of did not make: each call ends, without a panic.
func TestOtherPlans(t *testing.T) {
	numbers := append([]int{0, 1, 2, 16, 17, 300}, wrongPages...)
	for seed := range int64(3000) {
		g := rand.New(rand.NewSource(seed))
		any := func() int { return numbers[g.Intn(len(numbers))] }
		p := api.Plan{}
		if g.Intn(2) == 0 {
			p = made(t, 1+g.Intn(4096))
		}
		for _, field := range []*int{&p.Pages, &p.Budget, &p.Counters, &p.Nodes, &p.Head, &p.Heads, &p.Journal, &p.Spill, &p.Total} {
			if g.Intn(3) == 0 {
				*field = any()
			}
		}
		if g.Intn(2) == 0 {
			p.Levels = make([]int, g.Intn(6))
			for i := range p.Levels {
				p.Levels[i] = any()
			}
		}
		levels := slices.Clone(p.Levels)
		blocks := make([][]byte, 300)
		for i := range blocks {
			blocks[i] = make([]byte, 256)
		}
		for _, many := range []int{0, 1, 2, 16, 17, len(p.Levels) + 1, min(max(p.Counters, 0), 300)} {
			Build(nil, p, blocks[:many])
			for _, page := range numbers {
				Check(nil, p, page, blocks[:many], [32]byte{})
				if many > 0 {
					Check(nil, p, page, blocks[:many], Digest(nil, plan.Top(p), blocks[many-1]))
				}
			}
		}
		if !slices.Equal(levels, p.Levels) {
			t.Fatal("the levels changed")
		}
	}
}

// R1: with very many levels, of very many nodes, Build and Check end, and soon.
func TestOtherPlansEndSoon(t *testing.T) {
	block := make([]byte, 256)
	for _, nodes := range []int{0, 1, -1, 8, math.MaxInt, math.MinInt} {
		levels := make([]int, 1<<20)
		for i := range levels {
			levels[i] = nodes
		}
		path := make([][]byte, len(levels)+1)
		for i := range path {
			path[i] = block
		}
		p := api.Plan{Pages: math.MaxInt, Counters: 1, Levels: levels, Nodes: nodes}
		Build(nil, p, [][]byte{block})
		for _, page := range []int{0, 5, math.MaxInt - 1} {
			Check(nil, p, page, path, [32]byte{})
		}
	}
}

// P18.4, also of plans that plan.Of did not make: no path is taken that its
// root doesn't bind.
func TestOtherPlansBind(t *testing.T) {
	for seed := range int64(2000) {
		g := rand.New(rand.NewSource(seed))
		p := made(t, 1+g.Intn(300))
		p.Counters = g.Intn(40) - 5
		p.Nodes = g.Intn(40) - 5
		p.Levels = make([]int, g.Intn(4))
		for i := range p.Levels {
			p.Levels[i] = g.Intn(20) - 5
		}
		page := g.Intn(p.Pages)
		blocks, e := plan.Path(p, page)
		if e != api.OK {
			t.Fatal(e)
		}
		path := make([][]byte, len(blocks))
		for i := range path {
			path[i] = make([]byte, 256)
		}
		root := digest(blocks[len(blocks)-1], path[len(path)-1])
		if e := Check(nil, p, page, path, root); len(path) > 1 && e != api.ErrCorrupt {
			t.Fatalf("seed %d: Check = %d of nodes that bind nothing", seed, e)
		}
	}
}

func FuzzCheck(f *testing.F) {
	f.Add(uint16(20), 17, make([]byte, 256), 0, byte(1))
	f.Add(uint16(4095), 4095, []byte("abc"), 700, byte(0))
	f.Add(uint16(299), -1, []byte{}, -1, byte(255))
	f.Fuzz(func(t *testing.T, n uint16, page int, s []byte, at int, by byte) {
		p := made(t, 1+int(n)%api.MaxPages)
		c := make([][]byte, p.Counters)
		for i := range c {
			c[i] = append(slices.Clone(s), make([]byte, 256)...)[:256]
			c[i][i%256] ^= byte(i)
		}
		b := newBook(p, c)
		l := ghost.New()
		nodes, root, e := Build(l, p, c)
		if e != api.OK || root != b.root || !same(nodes, b.nodes()) {
			t.Fatalf("Build = %d nodes, %x, %d", len(nodes), root, e)
		}
		if page < 0 || page >= p.Pages {
			refusedCheck(t, p, page, c, root, api.ErrArg)
			return
		}
		path := b.path(t, page)
		if e := Check(l, p, page, path, root); e != api.OK {
			t.Fatalf("Check = %d", e)
		}
		if all := len(path) * 256; at >= 0 && at < all && by != 0 {
			path[at/256][at%256] ^= by
			refusedCheck(t, p, page, path, root, api.ErrCorrupt)
		}
	})
}
