package journal

import (
	"bytes"
	"crypto/sha256"
	"encoding/binary"
	"math"
	"math/rand"
	"slices"
	"testing"

	"thimble/api"
	"thimble/ghost"
	"thimble/plan"
)

// wrongBudgets are numbers that no budget is.
var wrongBudgets = []int{math.MinInt, math.MinInt + 1, math.MinInt + 4, math.MinInt32, -257, -256, -4, -1, 0, 257, 258, 512, 65536, 1 << 32, 1<<32 + 4, 1 << 62, 1<<62 - 1, math.MaxInt32, math.MaxInt - 1, math.MaxInt}

// wrongBlocks are numbers that no block of a device has.
var wrongBlocks = []int{math.MinInt, math.MinInt + 1, math.MinInt + 5, math.MinInt32, -65536, -65535, -2, -1, 65536, 65537, 1 << 17, 1 << 31, math.MaxUint32, 1 << 32, 1<<32 + 5, 1 << 40, 1<<62 + 5, math.MaxInt32, math.MaxInt - 1, math.MaxInt}

// edges are budgets about which a block of the head begins, and those at the ends.
var edges = []int{1, 2, 3, 4, 60, 61, 62, 63, 124, 125, 126, 188, 189, 190, 252, 253, 254, 255, 256}

// versions are those at the ends of their kind, and one each byte of which is another one.
var versions = []uint64{0, 1, 2, 255, 256, math.MaxInt64, 1 << 63, math.MaxUint64 - 1, math.MaxUint64, 0x0102030405060708}

// some are so many blocks of a device, from a fixed row; the first ones are at
// the ends of their kind, and there are like ones.
func some(many int, seed int64) []int {
	g := rand.New(rand.NewSource(seed))
	var l []int
	for len(l) < many {
		l = append(l, []int{65535, 0, 0, 256, 255, g.Intn(65536)}[min(len(l), 5)])
	}
	return l
}

// claim is the bytes of a head by the library's own writing, with whatever numbers
// in it, and bytes 00 up to so many.
func claim(version uint64, count uint32, numbers []uint32, size int) []byte {
	b := binary.BigEndian.AppendUint64(nil, version)
	b = binary.BigEndian.AppendUint32(b, count)
	for _, n := range numbers {
		b = binary.BigEndian.AppendUint32(b, n)
	}
	return append(b, make([]byte, size-len(b))...)
}

// size tells how many bytes a head of this budget has, by the chapters' words, block by block.
func size(budget int) int {
	n := 0
	for n < 12+4*budget {
		n += 256
	}
	return n
}

// book tells the head by the chapter's words.
func book(version uint64, blocks []int, budget int) []byte {
	var l []uint32
	for _, block := range blocks {
		l = append(l, uint32(block))
	}
	return claim(version, uint32(len(l)), l, size(budget))
}

// blocksOf lays bytes as blocks, each of them memory of its own.
func blocksOf(b []byte) [][]byte {
	var l [][]byte
	for ; len(b) > 0; b = b[256:] {
		l = append(l, slices.Clone(b[:256]))
	}
	return l
}

func copies(l [][]byte) [][]byte {
	var c [][]byte
	for _, b := range l {
		c = append(c, slices.Clone(b))
	}
	return c
}

func same(a, b [][]byte) bool { return slices.EqualFunc(a, b, bytes.Equal) }

// opens holds that the head is opened, as this.
func opens(t *testing.T, head [][]byte, budget int, version uint64, blocks []int) {
	t.Helper()
	if v, l, e := Open(head, budget); e != api.OK || v != version || !slices.Equal(l, blocks) {
		t.Fatalf("Open(%x, %d) = %d, %d, %d, not %d, %d", head, budget, v, l, e, version, blocks)
	}
}

// refuses holds that Open answers this error and nothing beside it.
func refuses(t *testing.T, head [][]byte, budget int, want api.Errno) {
	t.Helper()
	if v, l, e := Open(head, budget); e != want || v != 0 || l != nil {
		t.Fatalf("Open(%x, %d) = %d, %d, %d, not %d", head, budget, v, l, e, want)
	}
}

// refusesHead holds that Head answers ErrArg and nothing beside it.
func refusesHead(t *testing.T, version uint64, blocks []int, budget int) {
	t.Helper()
	if h, e := Head(version, blocks, budget); e != api.ErrArg || h != nil {
		t.Fatalf("Head(%d, %d, %d) = %x, %d", version, blocks, budget, h, e)
	}
}

// The chapter's example.
func TestExample(t *testing.T) {
	h, e := Head(1, []int{5}, 4)
	want := append([]byte{0, 0, 0, 0, 0, 0, 0, 1, 0, 0, 0, 1, 0, 0, 0, 5}, make([]byte, 240)...)
	if e != api.OK || !same(h, [][]byte{want}) {
		t.Fatalf("Head = %x, %d", h, e)
	}
	opens(t, [][]byte{want}, 4, 1, []int{5})
}

// P19.1, P19.2: which byte stands where, by hand, over the end of a block.
func TestBytesByHand(t *testing.T) {
	blocks := make([]int, 62)
	blocks[0], blocks[60], blocks[61] = 0x1234, 0xfedc, 0x0708
	want := make([]byte, 512)
	copy(want, []byte{1, 2, 3, 4, 5, 6, 7, 8, 0, 0, 0, 62, 0, 0, 0x12, 0x34})
	copy(want[252:], []byte{0, 0, 0xfe, 0xdc, 0, 0, 7, 8})
	h, e := Head(0x0102030405060708, blocks, 62)
	if e != api.OK || len(h) != 2 || !bytes.Equal(h[0], want[:256]) || !bytes.Equal(h[1], want[256:]) {
		t.Fatalf("Head = %x, %d", h, e)
	}
	opens(t, h, 62, 0x0102030405060708, blocks)
}

// P19.1, P19.2: each budget, with each count of blocks, is opened as it was made.
func TestHeadOpen(t *testing.T) {
	for budget := 1; budget <= 256; budget++ {
		p, e := plan.Of(300, budget)
		if e != api.OK || size(budget) != 256*p.Heads {
			t.Fatalf("budget %d: %d blocks, %d", budget, p.Heads, e)
		}
		for many := 0; many <= budget; many++ {
			version := versions[(budget+many)%len(versions)]
			blocks := some(many, int64(budget))
			h, e := Head(version, blocks, budget)
			if e != api.OK || len(h) != p.Heads || !same(h, blocksOf(book(version, blocks, budget))) {
				t.Fatalf("Head(%d, %d, %d) = %x, %d", version, blocks, budget, h, e)
			}
			opens(t, h, budget, version, blocks)
		}
	}
}

// P19.1, P19.2: each version, and each block that a device may have.
func TestHeadNumbers(t *testing.T) {
	for _, budget := range edges {
		for _, version := range versions {
			for _, many := range []int{0, 1, budget / 2, budget - 1, budget} {
				blocks := some(many, 7)
				h, e := Head(version, blocks, budget)
				if e != api.OK || !bytes.Equal(slices.Concat(h...), book(version, blocks, budget)) {
					t.Fatalf("Head(%d, %d, %d) = %x, %d", version, blocks, budget, h, e)
				}
				opens(t, h, budget, version, blocks)
			}
		}
	}
	for block := range 65536 {
		h, e := Head(3, []int{block}, 1)
		if e != api.OK || !same(h, [][]byte{book(3, []int{block}, 1)}) {
			t.Fatalf("Head of block %d = %x, %d", block, h, e)
		}
		opens(t, h, 1, 3, []int{block})
	}
	for bit := range 64 {
		h, e := Head(1<<bit, nil, 1)
		if e != api.OK || !same(h, [][]byte{book(1<<bit, nil, 1)}) {
			t.Fatalf("Head of version 2^%d = %x, %d", bit, h, e)
		}
		opens(t, h, 1, 1<<bit, nil)
	}
}

// P19.1: nothing, nil or without elements, is a head of no images.
func TestHeadNothing(t *testing.T) {
	for _, budget := range edges {
		for _, blocks := range [][]int{nil, {}, make([]int, 0, 5)} {
			h, e := Head(9, blocks, budget)
			if e != api.OK || !same(h, blocksOf(book(9, nil, budget))) {
				t.Fatalf("Head(9, nothing, %d) = %x, %d", budget, h, e)
			}
			opens(t, h, budget, 9, nil)
		}
	}
}

// P19.1: budgets that are none.
func TestHeadWrongBudget(t *testing.T) {
	for _, budget := range wrongBudgets {
		for _, many := range []int{0, 1, 4, 256, 257} {
			refusesHead(t, 1, some(many, 1), budget)
		}
		refusesHead(t, 1, []int{-1}, budget)
	}
}

// P19.1: more blocks than the budget, right ones too.
func TestHeadTooMany(t *testing.T) {
	for budget := 1; budget <= 256; budget++ {
		for _, many := range []int{budget + 1, budget + 2, 2*budget + 1, 257, 513, 65537} {
			refusesHead(t, 1, make([]int, many), budget)
		}
	}
	refusesHead(t, 1, make([]int, 1<<20), 256)
}

// P19.1: a block that no device has, at each place.
func TestHeadWrongBlock(t *testing.T) {
	for _, wrong := range wrongBlocks {
		for _, many := range []int{1, 2, 61, 62, 256} {
			for at := range many {
				blocks := some(many, 3)
				blocks[at] = wrong
				refusesHead(t, 1, blocks, many)
				refusesHead(t, 1, blocks, 256)
			}
		}
	}
}

// P19.2: budgets that are none are told first, whatever the head is.
func TestOpenWrongBudget(t *testing.T) {
	right := blocksOf(book(1, some(4, 1), 4))
	for _, budget := range wrongBudgets {
		for _, head := range [][][]byte{nil, {}, right, {nil}, {{1}}, blocksOf(make([]byte, 1280)), blocksOf(make([]byte, 1536))} {
			refuses(t, head, budget, api.ErrArg)
		}
	}
}

// P19.2: blocks that are too few, too many, or in another order.
func TestOpenWrongCount(t *testing.T) {
	for _, budget := range edges {
		for _, many := range []int{0, 1, budget} {
			h := blocksOf(book(0x0a0b0c0d, some(many, 2), budget))
			for n := range h {
				refuses(t, h[:n], budget, api.ErrForm)
			}
			for _, more := range []int{1, 2, 5, 300} {
				refuses(t, append(copies(h), blocksOf(make([]byte, 256*more))...), budget, api.ErrForm)
			}
			refuses(t, append(copies(h), nil), budget, api.ErrForm)
			refuses(t, append(copies(h), h[0]), budget, api.ErrForm)
			refuses(t, append([][]byte{{}}, h...), budget, api.ErrForm)
			if len(h) > 1 {
				slices.Reverse(h)
				refuses(t, h, budget, api.ErrForm)
			}
		}
	}
	for _, head := range [][][]byte{nil, {}} {
		refuses(t, head, 1, api.ErrForm)
		refuses(t, head, 256, api.ErrForm)
	}
}

// P19.2: a block that hasn't 256 bytes, at each place; with bytes 00 behind it too.
func TestOpenWrongLength(t *testing.T) {
	lengths := []int{512, 1280, 1 << 16}
	for n := range 300 {
		if n != 256 {
			lengths = append(lengths, n)
		}
	}
	for _, budget := range []int{1, 61, 62, 130, 256} {
		for _, many := range []int{0, 1, budget} {
			h := blocksOf(book(1, some(many, 4), budget))
			for at := range h {
				for _, n := range lengths {
					c := copies(h)
					c[at] = append(c[at], make([]byte, max(n-256, 0))...)[:n]
					refuses(t, c, budget, api.ErrForm)
				}
				c := copies(h)
				c[at] = nil
				refuses(t, c, budget, api.ErrForm)
			}
		}
	}
}

// P19.2: the bytes of a head, but cut elsewhere.
func TestOpenWrongCut(t *testing.T) {
	b := book(1, some(256, 4), 256)
	for at := 0; at <= len(b); at++ {
		if at%256 == 0 {
			continue
		}
		whole := at / 256 * 256
		c := append(blocksOf(b[:whole]), b[whole:at], b[at:])
		refuses(t, c, 256, api.ErrForm)
	}
	for by := 1; by < 256; by++ {
		var c [][]byte
		for i := range 5 {
			from, to := 256*i+by, 256*i+256+by
			if i == 0 {
				from = 0
			}
			if i == 4 {
				to = len(b)
			}
			c = append(c, b[from:to])
		}
		refuses(t, c, 256, api.ErrForm)
	}
	refuses(t, [][]byte{b, nil, nil, nil, nil}, 256, api.ErrForm)
	refuses(t, [][]byte{b}, 256, api.ErrForm)
	var single [][]byte
	for i := range b {
		single = append(single, b[i:i+1])
	}
	refuses(t, single, 256, api.ErrForm)
}

// P19.2: more images than the budget, with numbers for them or without.
func TestOpenTooMany(t *testing.T) {
	for _, budget := range edges {
		room := (size(budget) - 12) / 4
		for many := budget + 1; many <= room+2; many++ {
			numbers := make([]uint32, min(many, room))
			refuses(t, blocksOf(claim(1, uint32(many), numbers, size(budget))), budget, api.ErrForm)
			for i := range numbers {
				numbers[i] = 9
			}
			refuses(t, blocksOf(claim(1, uint32(many), numbers, size(budget))), budget, api.ErrForm)
		}
		for _, many := range []uint32{257, 258, 1 << 16, 1<<16 + 1, 1 << 24, 1 << 30, 1<<30 + 1, 1<<31 - 1, 1 << 31, 1<<31 + 1, math.MaxUint32 - 1, math.MaxUint32} {
			refuses(t, blocksOf(claim(1, many, []uint32{5}, size(budget))), budget, api.ErrForm)
		}
	}
}

// P19.2: heads of other budgets: taken where they have room in this one.
func TestOpenOtherBudget(t *testing.T) {
	for _, one := range edges {
		for _, other := range edges {
			for _, many := range []int{0, 1, one} {
				blocks := some(many, 6)
				h := blocksOf(book(8, blocks, one))
				if size(one) == size(other) && many <= other {
					opens(t, h, other, 8, blocks)
				} else {
					refuses(t, h, other, api.ErrForm)
				}
			}
		}
	}
}

// P19.2: a block that no device has, at each place.
func TestOpenWrongBlock(t *testing.T) {
	for _, wrong := range []uint32{65536, 65537, 65541, 1 << 17, 1 << 24, 1<<31 - 1, 1 << 31, 1<<31 + 5, math.MaxUint32 - 65535, math.MaxUint32 - 1, math.MaxUint32} {
		for _, many := range []int{1, 2, 61, 62, 125, 256} {
			for at := range many {
				numbers := make([]uint32, many)
				numbers[at] = wrong
				refuses(t, blocksOf(claim(1, uint32(many), numbers, size(many))), many, api.ErrForm)
			}
		}
	}
}

// P19.2: a byte that isn't 00, at each place behind the images.
func TestOpenRest(t *testing.T) {
	for _, budget := range []int{1, 4, 61, 62, 124, 125, 126, 255, 256} {
		for _, many := range []int{0, 1, budget - 1, budget} {
			b := book(7, some(many, 8), budget)
			for at := 12 + 4*many; at < len(b); at++ {
				for _, by := range []byte{1, 0x80, 0xff} {
					b[at] = by
					refuses(t, blocksOf(b), budget, api.ErrForm)
				}
				b[at] = 0
			}
			opens(t, blocksOf(b), budget, 7, some(many, 8))
		}
	}
}

// asBook opens a head by the chapter's words: it looks at each of its parts.
func asBook(b []byte, budget int) (uint64, []int, bool) {
	many := int(binary.BigEndian.Uint32(b[8:]))
	if len(b) != size(budget) || many > budget {
		return 0, nil, false
	}
	var blocks []int
	for i := range many {
		n := int(binary.BigEndian.Uint32(b[12+4*i:]))
		if n >= 65536 {
			return 0, nil, false
		}
		blocks = append(blocks, n)
	}
	for _, rest := range b[12+4*many:] {
		if rest != 0 {
			return 0, nil, false
		}
	}
	return binary.BigEndian.Uint64(b), blocks, true
}

// likeBook holds that Open answers as the book does, and that Head makes the
// head again if it is one.
func likeBook(t *testing.T, b []byte, budget int) {
	t.Helper()
	v, l, ok := asBook(b, budget)
	if !ok {
		refuses(t, blocksOf(b), budget, api.ErrForm)
		return
	}
	opens(t, blocksOf(b), budget, v, l)
	if h, e := Head(v, l, budget); e != api.OK || !same(h, blocksOf(b)) {
		t.Fatalf("Head(%d, %d, %d) = %x, %d, not %x", v, l, budget, h, e, b)
	}
}

// P19.2: each bit of a head turned.
func TestOpenTurned(t *testing.T) {
	for _, budget := range []int{1, 2, 4, 61, 62, 256} {
		for _, many := range []int{0, 1, budget / 2, budget} {
			b := book(0x1020304050607080, some(many, 9), budget)
			for bit := range 8 * len(b) {
				b[bit/8] ^= 1 << (bit % 8)
				likeBook(t, b, budget)
				b[bit/8] ^= 1 << (bit % 8)
			}
		}
	}
}

// P19.2: bytes of any kind: all, and near to a head.
func TestOpenAnyBytes(t *testing.T) {
	g := rand.New(rand.NewSource(10))
	for range 20000 {
		budget := 1 + g.Intn(256)
		b := make([]byte, size(budget))
		switch g.Intn(4) {
		case 0:
			g.Read(b)
		case 1:
			copy(b, book(g.Uint64(), some(g.Intn(budget+1), g.Int63()), budget))
			b[g.Intn(len(b))] = byte(g.Intn(256))
		case 2:
			numbers := make([]uint32, g.Intn(budget+1))
			for i := range numbers {
				numbers[i] = uint32(g.Intn(65538))
			}
			copy(b, claim(g.Uint64(), uint32(g.Intn(budget+3)), numbers, len(b)))
		default:
			for i := range b {
				b[i] = byte(g.Intn(2))
			}
			b[8], b[9], b[10], b[11] = 0, 0, 0, byte(g.Intn(256))
		}
		likeBook(t, b, budget)
	}
}

// P19.2: unlike versions, and unlike blocks, have unlike heads.
func TestUnlikeHeads(t *testing.T) {
	seen := make(map[[256]byte]int)
	lists := [][]int{nil, {0}, {0, 0}, {0, 0, 0}, {1}, {0, 1}, {1, 0}, {256}, {65535}, {1, 2, 3}, {3, 2, 1}, {1, 2}}
	many := 0
	for _, version := range versions {
		for _, blocks := range lists {
			h, e := Head(version, blocks, 3)
			if e != api.OK || len(h) != 1 {
				t.Fatalf("Head(%d, %d, 3) = %x, %d", version, blocks, h, e)
			}
			seen[[256]byte(h[0])]++
			many++
		}
	}
	if len(seen) != many {
		t.Errorf("%d heads for %d", len(seen), many)
	}
}

// noted tells how many pairs a log has.
func noted(l *ghost.Log) int {
	n, _, _ := l.Count()
	return n
}

// known tells whether the log has this input by its digest: if so, another input
// with that digest clashes with it.
func known(l *ghost.Log, in []byte) bool {
	other := append(slices.Clone(in), 0xaa)
	l.Note(other, sha256.Sum256(in))
	a, b, ok := l.Clash()
	return ok && bytes.Equal(a, in) && bytes.Equal(b, other)
}

// input is what a mark is made of, by the library's own writing.
func input(head, images [][]byte) []byte {
	return slices.Concat([]byte{2}, slices.Concat(head...), slices.Concat(images...))
}

// P19.3: marks by hand, of parts of any length.
func TestMarkByHand(t *testing.T) {
	for _, c := range []struct {
		head, images [][]byte
		want         string
	}{
		{nil, nil, "\x02"},
		{[][]byte{}, [][]byte{}, "\x02"},
		{[][]byte{nil, {}}, [][]byte{{}, nil, nil}, "\x02"},
		{[][]byte{[]byte("a")}, nil, "\x02a"},
		{nil, [][]byte{[]byte("a")}, "\x02a"},
		{[][]byte{[]byte("ab"), []byte("c")}, [][]byte{[]byte("d"), nil, []byte("efg")}, "\x02abcdefg"},
		{[][]byte{{2}, {2}}, [][]byte{{2}}, "\x02\x02\x02\x02"},
	} {
		if m := Mark(nil, c.head, c.images); m != sha256.Sum256([]byte(c.want)) {
			t.Errorf("Mark(%q, %q) = %x", c.head, c.images, m)
		}
	}
}

// P19.3: marks of heads and images, which the log makes: one digest each.
func TestMark(t *testing.T) {
	g := rand.New(rand.NewSource(11))
	for _, budget := range edges {
		for _, many := range []int{0, 1, budget / 2, budget} {
			h, e := Head(g.Uint64(), some(many, 12), budget)
			if e != api.OK {
				t.Fatal(e)
			}
			var images [][]byte
			for range many {
				b := make([]byte, 256)
				g.Read(b)
				images = append(images, b)
			}
			want := sha256.Sum256(input(h, images))
			l := ghost.New()
			if m := Mark(l, h, images); m != want {
				t.Fatalf("budget %d, %d images: Mark = %x, not %x", budget, many, m, want)
			}
			if noted(l) != 1 || !known(l, input(h, images)) {
				t.Fatalf("budget %d, %d images: the mark wasn't noted", budget, many)
			}
			if m := Mark(nil, h, images); m != want {
				t.Fatalf("budget %d, %d images: Mark without a log = %x", budget, many, m)
			}
			if m := Mark(&ghost.Log{}, h, images); m != want {
				t.Fatalf("budget %d, %d images: Mark of a zero log = %x", budget, many, m)
			}
		}
	}
}

// P19.3: each bit of a head and of an image counts, and so does their order.
func TestMarkBinds(t *testing.T) {
	h, _ := Head(5, []int{1, 2, 3}, 62)
	images := [][]byte{bytes.Repeat([]byte{1}, 256), bytes.Repeat([]byte{2}, 256), bytes.Repeat([]byte{3}, 256)}
	mark := Mark(nil, h, images)
	for _, b := range slices.Concat(h, images) {
		for bit := range 8 * len(b) {
			b[bit/8] ^= 1 << (bit % 8)
			if Mark(nil, h, images) == mark {
				t.Fatalf("bit %d plays no part", bit)
			}
			b[bit/8] ^= 1 << (bit % 8)
		}
	}
	for _, c := range []struct{ head, images [][]byte }{
		{[][]byte{h[1], h[0]}, images},
		{h[:1], images},
		{h, images[:2]},
		{h, images[1:]},
		{h, [][]byte{images[1], images[0], images[2]}},
		{images, h},
		{nil, images},
		{h, nil},
	} {
		if Mark(nil, c.head, c.images) == mark {
			t.Errorf("Mark(%x, %x) is the same", c.head, c.images)
		}
	}
}

// P19.3: in one log, marks of other things clash with none, and one whose
// digest something else has is found out.
func TestMarkClash(t *testing.T) {
	h, _ := Head(5, []int{1}, 4)
	images := [][]byte{make([]byte, 256)}
	l := ghost.New()
	for range 3 {
		Mark(l, h, images)
		Mark(l, h, nil)
		Mark(l, nil, images)
	}
	if a, b, ok := l.Clash(); ok || noted(l) != 9 {
		t.Fatalf("%d were noted, clash %x, %x", noted(l), a, b)
	}
	l = ghost.New()
	l.Note([]byte("other"), sha256.Sum256(input(h, images)))
	Mark(l, h, images)
	if a, b, ok := l.Clash(); !ok || string(a) != "other" || !bytes.Equal(b, input(h, images)) {
		t.Fatalf("Clash = %x, %x, %v", a, b, ok)
	}
}

// R4: what is answered is new memory, and no two parts of an answer share any.
func TestNewMemory(t *testing.T) {
	for _, many := range []int{0, 61, 100, 256} {
		blocks := some(many, 13)
		kept := slices.Clone(blocks)
		h, _ := Head(6, blocks, 256)
		whole := copies(h)
		for n, b := range h {
			room := b[:cap(b)]
			for i := range room {
				room[i] ^= 255
			}
			for m := range h {
				if m != n && !bytes.Equal(h[m], whole[m]) {
					t.Fatalf("blocks %d and %d share memory", n, m)
				}
			}
			h[n] = slices.Clone(whole[n])
		}
		if again, e := Head(6, blocks, 256); e != api.OK || !same(again, whole) || !slices.Equal(blocks, kept) {
			t.Fatalf("Head's answer shares memory: %x, %d", again, e)
		}
		_, one, _ := Open(h, 256)
		_, two, _ := Open(h, 256)
		one = one[:cap(one)]
		for i := range one {
			one[i] = -1
		}
		if !slices.Equal(two, kept) || !same(h, whole) {
			t.Fatal("Open's answer shares memory")
		}
		opens(t, h, 256, 6, kept)
	}
}

// R4: neither what is handed in changes, nor the room behind it, which isn't
// read either; what is changed behind a call changes nothing that the log has.
func TestHandedIn(t *testing.T) {
	blocks := append(some(4, 14), -1, 70000, -1)
	kept := slices.Clone(blocks)
	h, e := Head(2, blocks[:4], 4)
	if e != api.OK || !slices.Equal(blocks, kept) {
		t.Fatalf("Head(%d) = %x, %d", blocks, h, e)
	}
	refusesHead(t, 2, blocks[:5], 5)

	one := append(slices.Clone(h[0]), bytes.Repeat([]byte{0xee}, 300)...)
	list := [][]byte{one[:256], {1}, {2}, {3}}
	wasOne, wasList := slices.Clone(one), copies(list)
	hold := func(what string) {
		t.Helper()
		if !bytes.Equal(one, wasOne) || !same(list, wasList) {
			t.Fatalf("%s changed what was handed in", what)
		}
	}
	opens(t, list[:1], 4, 2, kept[:4])
	hold("Open")
	refuses(t, list[:2], 4, api.ErrForm)
	refuses(t, list, 4, api.ErrForm)
	refuses(t, [][]byte{one[:255]}, 4, api.ErrForm)
	hold("Open")

	l := ghost.New()
	in := input(wasList[:1], [][]byte{{7}, {8}})
	images := [][]byte{{7}, {8}, {9}}
	if m := Mark(l, list[:1], images[:2]); m != sha256.Sum256(in) {
		t.Fatalf("Mark = %x", m)
	}
	hold("Mark")
	if !same(images, [][]byte{{7}, {8}, {9}}) {
		t.Fatalf("Mark changed the images: %x", images)
	}
	clear(one)
	images[0][0] = 1
	if !known(l, in) {
		t.Error("the log lost what was hashed")
	}
}

// R1: heads of very many blocks, and very long ones, are soon refused.
func TestGreatHeads(t *testing.T) {
	zero := make([]byte, 256)
	head := make([][]byte, 1<<20)
	for i := range head {
		head[i] = zero
	}
	refuses(t, head, 256, api.ErrForm)
	long := make([]byte, 1<<24)
	if v, l, e := Open([][]byte{zero, zero, long, zero, long}, 256); e != api.ErrForm || v != 0 || l != nil {
		t.Errorf("Open = %d, %d, %d", v, l, e)
	}
}

func FuzzOpen(f *testing.F) {
	f.Add(book(1, []int{5}, 4), 4)
	f.Add(book(math.MaxUint64, some(256, 1), 256), 256)
	f.Add([]byte{}, 1)
	f.Add(make([]byte, 300), 0)
	f.Fuzz(func(t *testing.T, b []byte, budget int) {
		if budget < 1 || budget > 256 {
			refuses(t, [][]byte{b}, budget, api.ErrArg)
			return
		}
		likeBook(t, append(b, make([]byte, 1280)...)[:size(budget)], budget)
		if len(b) != 256 {
			refuses(t, [][]byte{b}, budget, api.ErrForm)
		}
	})
}

func FuzzHead(f *testing.F) {
	f.Add(uint64(1), 5, 4, 1)
	f.Add(uint64(math.MaxUint64), 65535, 256, 256)
	f.Add(uint64(0), 65536, 62, 62)
	f.Add(uint64(0), -1, 0, 3)
	f.Fuzz(func(t *testing.T, version uint64, block, budget, many int) {
		many = int(uint(many) % 300)
		blocks := some(many, 1)
		if many > 0 {
			blocks[many/2] = block
		}
		if budget < 1 || budget > 256 || many > budget || many > 0 && (block < 0 || block > 65535) {
			refusesHead(t, version, blocks, budget)
			return
		}
		h, e := Head(version, blocks, budget)
		if e != api.OK || !same(h, blocksOf(book(version, blocks, budget))) {
			t.Fatalf("Head(%d, %d, %d) = %x, %d", version, blocks, budget, h, e)
		}
		opens(t, h, budget, version, blocks)
	})
}
