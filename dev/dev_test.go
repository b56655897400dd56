package dev

import (
	"bytes"
	"math"
	"math/rand"
	"slices"
	"testing"

	"thimble/api"
)

// book is a device by the chapter's words: all writes that wait stand in one
// list, and whatever is asked is looked up there.
type book struct {
	stored  [][]byte
	waits   []api.Written
	written []api.Written
	images  [][][]byte
	count   int
	armed   int
	up      bool
}

func newBook(blocks int) *book {
	b := &book{up: true}
	for range blocks {
		b.stored = append(b.stored, make([]byte, 256))
	}
	return b
}

func (b *book) no(block int) bool { return block < 0 || block >= len(b.stored) }

func (b *book) reads(block int) []byte {
	for i := len(b.waits) - 1; i >= 0; i-- {
		if b.waits[i].Block == block {
			return bytes.Clone(b.waits[i].Bytes)
		}
	}
	return bytes.Clone(b.stored[block])
}

// goes counts an access, and tells whether the power goes in it.
func (b *book) goes() bool {
	b.count++
	if b.armed == 0 {
		return false
	}
	b.armed--
	if b.armed == 0 {
		b.up = false
	}
	return !b.up
}

func (b *book) write(block int, what []byte) api.Errno {
	switch {
	case !b.up:
		return api.ErrDown
	case b.no(block) || len(what) != 256:
		return api.ErrArg
	}
	b.waits = append(b.waits, api.Written{Block: block, Bytes: bytes.Clone(what)})
	b.written = append(b.written, api.Written{Block: block, Bytes: bytes.Clone(what)})
	if b.goes() {
		return api.ErrDown
	}
	return api.OK
}

func (b *book) flush() api.Errno {
	if !b.up || b.goes() {
		return api.ErrDown
	}
	for _, w := range b.waits {
		b.stored[w.Block] = bytes.Clone(w.Bytes)
	}
	b.waits = nil
	return api.OK
}

func (b *book) spend() bool { return b.up && !b.goes() }

func (b *book) arm(n int) {
	b.armed = 0
	if n >= 1 {
		b.armed = n
	}
}

func (b *book) crash() { b.up, b.armed = false, 0 }

func (b *book) on(fates []int) {
	if b.up {
		return
	}
	b.up, b.armed = true, 0
	for i, w := range b.waits {
		k := 0
		if len(fates) > 0 {
			k = fates[i%len(fates)] % 257
		}
		if k < 0 {
			k += 257
		}
		for at := range k {
			b.stored[w.Block][at] = w.Bytes[at]
		}
	}
	b.waits = nil
}

func (b *book) lay(block int, what []byte) {
	b.stored[block] = what
	b.waits = slices.DeleteFunc(b.waits, func(w api.Written) bool { return w.Block == block })
}

func (b *book) poke(block, at int, by []byte) api.Errno {
	if b.no(block) || at < 0 || at > 256 || len(by) > 256 || at+len(by) > 256 {
		return api.ErrArg
	}
	what := b.reads(block)
	for i := range by {
		what[at+i] ^= by[i]
	}
	b.lay(block, what)
	return api.OK
}

func (b *book) copy(from, to int) api.Errno {
	if b.no(from) || b.no(to) {
		return api.ErrArg
	}
	b.lay(to, b.reads(from))
	return api.OK
}

func (b *book) snap() (int, api.Errno) {
	if len(b.images) >= 8 {
		return 0, api.ErrFull
	}
	var image [][]byte
	for i := range b.stored {
		image = append(image, b.reads(i))
	}
	b.images = append(b.images, image)
	return len(b.images) - 1, api.OK
}

func (b *book) back(n int) api.Errno {
	if n < 0 || n >= len(b.images) {
		return api.ErrArg
	}
	for i := range b.stored {
		b.stored[i] = bytes.Clone(b.images[n][i])
	}
	b.waits = nil
	return api.OK
}

// holds tells whether a device answers all that the book does.
func (b *book) holds(t testing.TB, d *Device) {
	t.Helper()
	if d.Blocks() != len(b.stored) || d.Waits() != len(b.waits) || d.Count() != b.count || d.Up() != b.up {
		t.Fatalf("Blocks %d, Waits %d, Count %d, Up %v, not %d, %d, %d, %v",
			d.Blocks(), d.Waits(), d.Count(), d.Up(), len(b.stored), len(b.waits), b.count, b.up)
	}
	for i := -1; i <= len(b.stored); i++ {
		got, e := d.Read(i)
		want, code := []byte(nil), api.OK
		switch {
		case !b.up:
			code = api.ErrDown
		case b.no(i):
			code = api.ErrArg
		default:
			want = b.reads(i)
		}
		if e != code || !bytes.Equal(got, want) {
			t.Fatalf("Read(%d): %x, %d, not %x, %d", i, got, e, want, code)
		}
	}
	sameWritten(t, d.Written(), b.written)
}

func sameWritten(t testing.TB, got, want []api.Written) {
	t.Helper()
	if len(got) != len(want) {
		t.Fatalf("Written: %d, not %d", len(got), len(want))
	}
	for i := range want {
		if got[i].Block != want[i].Block || !bytes.Equal(got[i].Bytes, want[i].Bytes) {
			t.Fatalf("Written: the %d-th is %v, not %v", i, got[i], want[i])
		}
	}
}

// both is a device and its book: each call goes to both, and their answers
// are held against each other.
type both struct {
	t testing.TB
	d *Device
	b *book
}

func newBoth(t testing.TB, blocks int) *both {
	return &both{t: t, d: made(t, blocks), b: newBook(blocks)}
}

func (x *both) same(what string, got, want any) {
	x.t.Helper()
	if got != want {
		x.t.Fatalf("%s: %v, not %v", what, got, want)
	}
}

func (x *both) write(block int, b []byte) {
	x.t.Helper()
	x.same("Write", x.d.Write(block, b), x.b.write(block, b))
}

func (x *both) flush() {
	x.t.Helper()
	x.same("Flush", x.d.Flush(), x.b.flush())
}

func (x *both) spend() {
	x.t.Helper()
	x.same("Spend", x.d.Spend(), x.b.spend())
}

func (x *both) poke(block, at int, by []byte) {
	x.t.Helper()
	x.same("Poke", x.d.Poke(block, at, by), x.b.poke(block, at, by))
}

func (x *both) copy(from, to int) {
	x.t.Helper()
	x.same("Copy", x.d.Copy(from, to), x.b.copy(from, to))
}

func (x *both) snap() {
	x.t.Helper()
	n, e := x.d.Snap()
	m, f := x.b.snap()
	x.same("Snap", n, m)
	x.same("Snap", e, f)
}

func (x *both) back(n int) {
	x.t.Helper()
	x.same("Back", x.d.Back(n), x.b.back(n))
}

func (x *both) arm(n int) {
	x.d.Arm(n)
	x.b.arm(n)
}

func (x *both) crash() {
	x.d.Crash()
	x.b.crash()
}

func (x *both) on(fates ...int) {
	x.d.On(fates)
	x.b.on(fates)
}

func (x *both) holds() {
	x.t.Helper()
	x.b.holds(x.t, x.d)
}

// made is a device of so many blocks.
func made(t testing.TB, blocks int) *Device {
	t.Helper()
	d, e := New(blocks)
	if d == nil || e != api.OK {
		t.Fatalf("New(%d): %v, %d", blocks, d, e)
	}
	return d
}

// filled is a block of one byte.
func filled(x byte) []byte { return bytes.Repeat([]byte{x}, 256) }

// torn is a block whose first bytes are a, k of them, and the others b.
func torn(a, b byte, k int) []byte {
	return append(bytes.Repeat([]byte{a}, k), bytes.Repeat([]byte{b}, 256-k)...)
}

// grained is a block no two of whose bytes are the same.
func grained(x byte) []byte {
	b := make([]byte, 256)
	for i := range b {
		b[i] = byte(i) ^ x
	}
	return b
}

func answers(t testing.TB, what string, got, want api.Errno) {
	t.Helper()
	if got != want {
		t.Fatalf("%s: %d, not %d", what, got, want)
	}
}

// has fails if a block does not read so.
func has(t testing.TB, d *Device, block int, want []byte) {
	t.Helper()
	if b, e := d.Read(block); e != api.OK || !bytes.Equal(b, want) {
		t.Fatalf("Read(%d): %x, %d, not %x", block, b, e, want)
	}
}

// stands fails if what waits, what was counted or the power isn't so.
func stands(t testing.TB, d *Device, waits, count int, up bool) {
	t.Helper()
	if d.Waits() != waits || d.Count() != count || d.Up() != up {
		t.Fatalf("Waits %d, Count %d, Up %v, not %d, %d, %v", d.Waits(), d.Count(), d.Up(), waits, count, up)
	}
}

// P10.1: a new device has so many blocks, all 00, and its power is on.
func TestNew(t *testing.T) {
	for _, n := range []int{1, 2, 3, 255, 256, 257, api.MaxBlocks - 1, api.MaxBlocks} {
		d := made(t, n)
		if d.Blocks() != n || len(d.Written()) != 0 {
			t.Fatalf("New(%d): %d blocks, %d written", n, d.Blocks(), len(d.Written()))
		}
		stands(t, d, 0, 0, true)
		for _, i := range []int{0, n / 2, n - 1} {
			has(t, d, i, make([]byte, 256))
		}
		if b, e := d.Read(n); b != nil || e != api.ErrArg {
			t.Fatalf("New(%d): Read(%d): %x, %d", n, n, b, e)
		}
	}
}

// P10.1: ErrArg, with no device, of numbers that aren't 1 to MaxBlocks.
func TestNewRefuses(t *testing.T) {
	for _, n := range []int{0, -1, -256, math.MinInt, api.MaxBlocks + 1, 1 << 20, 1 << 40, math.MaxInt} {
		if d, e := New(n); d != nil || e != api.ErrArg {
			t.Fatalf("New(%d): %v, %d", n, d, e)
		}
	}
}

// P10.1: nothing is armed at first.
func TestNothingArmedAtFirst(t *testing.T) {
	d := made(t, 1)
	for i := range 100 {
		if !d.Spend() {
			t.Fatalf("the power went in access %d", i+1)
		}
	}
	stands(t, d, 0, 100, true)
}

// P10.2: ErrArg of blocks that there aren't, and of bytes that aren't 256; these
// are no accesses, and change nothing (R5).
func TestWrongBlocksAndBytes(t *testing.T) {
	x := newBoth(t, 4)
	x.write(3, filled(1))
	x.arm(2)
	for _, n := range []int{-1, -4, 4, 5, 256, math.MinInt, math.MaxInt} {
		if b, e := x.d.Read(n); b != nil || e != api.ErrArg {
			t.Fatalf("Read(%d): %x, %d", n, b, e)
		}
		answers(t, "Write", x.d.Write(n, filled(2)), api.ErrArg)
		answers(t, "Write", x.d.Write(n, nil), api.ErrArg)
	}
	for _, n := range []int{0, 1, 128, 255, 257, 512, 1000} {
		answers(t, "Write", x.d.Write(3, make([]byte, n)), api.ErrArg)
		answers(t, "Write", x.d.Write(3, make([]byte, n, 2000)), api.ErrArg)
	}
	answers(t, "Write", x.d.Write(3, nil), api.ErrArg)
	x.holds()
	x.spend()
	x.holds()
	x.write(0, filled(3)) // the second access since it was armed
	if x.d.Up() {
		t.Fatal("the power is on")
	}
	x.holds()
}

// P10.2: of several writes that wait the last one of a block is read; a Flush
// stores them all.
func TestWritesWait(t *testing.T) {
	x := newBoth(t, 3)
	for i, block := range []int{2, 0, 2, 2, 0} {
		x.write(block, grained(byte(i)))
		has(t, x.d, block, grained(byte(i)))
		x.holds()
	}
	stands(t, x.d, 5, 5, true)
	has(t, x.d, 0, grained(4))
	has(t, x.d, 1, make([]byte, 256))
	has(t, x.d, 2, grained(3))
	x.flush()
	stands(t, x.d, 0, 6, true)
	has(t, x.d, 0, grained(4))
	has(t, x.d, 2, grained(3))
	x.holds()
	x.crash()
	x.on()
	x.holds()
	x.flush() // nothing waits: an access all the same
	stands(t, x.d, 0, 7, true)
	x.holds()
}

// P10.1: Written tells all writes that were accesses, also that one in which the
// power went, whatever becomes of them; not those that were refused.
func TestWritten(t *testing.T) {
	d := made(t, 2)
	d.Write(1, filled(1))
	d.Write(0, filled(2))
	d.Write(2, filled(3))
	d.Write(0, nil)
	d.Flush()
	d.Poke(0, 0, []byte{1})
	d.Copy(0, 1)
	d.Write(0, filled(2))
	d.Poke(0, 0, nil)
	d.Arm(1)
	answers(t, "Write", d.Write(1, filled(4)), api.ErrDown)
	answers(t, "Write", d.Write(1, filled(5)), api.ErrDown)
	d.Snap()
	d.On(nil)
	d.Back(0)
	d.Write(1, filled(6))
	sameWritten(t, d.Written(), []api.Written{
		{Block: 1, Bytes: filled(1)}, {Block: 0, Bytes: filled(2)}, {Block: 0, Bytes: filled(2)},
		{Block: 1, Bytes: filled(4)}, {Block: 1, Bytes: filled(6)},
	})
}

// P10.2, P10.3: the power goes in the access that was armed, be it a Write,
// which waits, a Flush, which does nothing, or a Spend; only accesses count.
func TestArmed(t *testing.T) {
	kinds := []func(x *both) bool{
		func(x *both) bool { x.write(1, filled(9)); return x.d.Up() },
		func(x *both) bool { x.flush(); return x.d.Up() },
		func(x *both) bool { x.spend(); return x.d.Up() },
	}
	for last := range kinds {
		for _, n := range []int{1, 2, 3, 7, 50} {
			x := newBoth(t, 3)
			x.write(0, grained(1))
			x.arm(n)
			for i := 1; i < n; i++ {
				if !kinds[(i+last)%3](x) {
					t.Fatalf("Arm(%d): the power went in access %d", n, i)
				}
				idle(x)
			}
			if kinds[last](x) {
				t.Fatalf("Arm(%d): the power stayed", n)
			}
			x.holds()
			x.on(77, 5, 300)
			x.holds()
			for range 2 * n { // nothing is armed any more
				x.spend()
			}
			x.holds()
		}
	}
}

// idle calls what is no access.
func idle(x *both) {
	x.holds()
	x.write(-1, filled(1))
	x.write(0, filled(1)[:255])
	x.poke(2, 0, []byte{1})
	x.copy(2, 0)
	x.snap()
	x.back(0)
	x.on(1)
}

// P10.3: what is armed takes the place of what was; below 1, nothing is.
func TestArmedAnew(t *testing.T) {
	for _, n := range []int{0, -1, -7, math.MinInt} {
		d := made(t, 1)
		d.Arm(2)
		d.Spend()
		d.Arm(n)
		for range 10 {
			if !d.Spend() {
				t.Fatalf("Arm(%d): the power went", n)
			}
		}
	}
	d := made(t, 1)
	d.Arm(1)
	d.Arm(3)
	d.Spend()
	d.Spend()
	d.Arm(2)
	if !d.Spend() || d.Spend() || d.Spend() {
		t.Fatal("Arm(2) did not take the place of Arm(3)")
	}
	stands(t, d, 0, 4, false)

	d = made(t, 1)
	d.Arm(math.MaxInt)
	if !d.Spend() {
		t.Fatal("Arm of the greatest number")
	}
}

// P10.3: when the power goes nothing is armed any more, nor when it comes back,
// whatever was armed while it was off.
func TestNothingArmedBehind(t *testing.T) {
	d := made(t, 1)
	d.Arm(1)
	d.Crash()
	d.On(nil)
	if !d.Spend() {
		t.Fatal("armed behind a Crash")
	}
	d.Crash()
	d.Arm(1)
	d.Crash()
	d.Arm(2)
	d.On(nil)
	if !d.Spend() || !d.Spend() || !d.Spend() {
		t.Fatal("armed while the power was off")
	}
	d.Arm(2)
	d.On(nil) // the power is on: nothing happens, and it stays armed
	if !d.Spend() || d.Spend() {
		t.Fatal("On while the power was on")
	}
}

// P10.2: each call while the power is off.
func TestDown(t *testing.T) {
	x := newBoth(t, 2)
	x.write(0, filled(1))
	x.crash()
	x.crash()
	for range 3 {
		for _, n := range []int{0, 1, 2, -1} {
			if b, e := x.d.Read(n); b != nil || e != api.ErrDown {
				t.Fatalf("Read(%d): %x, %d", n, b, e)
			}
			answers(t, "Write", x.d.Write(n, filled(2)), api.ErrDown)
			answers(t, "Write", x.d.Write(n, nil), api.ErrDown)
		}
		answers(t, "Flush", x.d.Flush(), api.ErrDown)
		if x.d.Spend() {
			t.Fatal("Spend")
		}
		stands(t, x.d, 1, 1, false)
	}
	x.holds()
	x.on(256)
	has(t, x.d, 0, filled(1))
	x.holds()
}

// P10.2: the power goes in a Write, a Flush and a Spend: the accesses' answers,
// and what waits.
func TestPowerGoes(t *testing.T) {
	d := made(t, 2)
	d.Write(0, filled(1))
	d.Flush()
	d.Write(0, filled(2))
	d.Arm(1)
	answers(t, "Flush", d.Flush(), api.ErrDown)
	stands(t, d, 1, 4, false)
	d.On(nil)
	has(t, d, 0, filled(1)) // the Flush did nothing

	d.Arm(1)
	answers(t, "Write", d.Write(1, filled(3)), api.ErrDown)
	stands(t, d, 1, 5, false)
	d.On([]int{256})
	has(t, d, 1, filled(3))

	d.Write(0, filled(4))
	d.Arm(1)
	if d.Spend() {
		t.Fatal("Spend")
	}
	stands(t, d, 1, 7, false)
	d.On([]int{1})
	has(t, d, 0, torn(4, 1, 1))
}

// P10.3: the fates of one write.
func TestFates(t *testing.T) {
	least := math.MinInt % 257
	cases := []struct{ fate, k int }{
		{0, 0}, {1, 1}, {10, 10}, {255, 255}, {256, 256}, {257, 0}, {258, 1}, {513, 256}, {514, 0},
		{-1, 256}, {-2, 255}, {-256, 1}, {-257, 0}, {-258, 256}, {-514, 0},
		{math.MaxInt, math.MaxInt % 257}, {math.MinInt, (least + 257) % 257},
	}
	for _, c := range cases {
		d := made(t, 4)
		d.Write(3, filled(1))
		d.Flush()
		d.Write(3, filled(2))
		d.Crash()
		d.On([]int{c.fate})
		stands(t, d, 0, 3, true)
		has(t, d, 3, torn(2, 1, c.k))
	}
}

// P10.3: fates of fewer and of more numbers than there are writes, over several
// writes of one block.
func TestFatesOfMany(t *testing.T) {
	lists := [][]int{
		nil, {}, {0}, {256}, {100}, {200, 50}, {50, 200}, {1, 2, 3}, {3, 2, 1, 256}, {10, 20, 30, 40, 50},
		{256, 0, 128, 64, 32, 255, 7, 9}, {-1, 257, -300, 1 << 40, math.MinInt},
	}
	for _, fates := range lists {
		x := newBoth(t, 3)
		x.write(0, grained(0x10))
		x.write(1, grained(0x20))
		x.flush()
		for i, block := range []int{1, 0, 1, 2, 1} {
			x.write(block, grained(byte(i)))
		}
		x.crash()
		x.on(fates...)
		stands(t, x.d, 0, 8, true)
		x.holds()
		x.crash() // what was torn stays
		x.on(256, 255)
		x.holds()
	}
}

// P10.3: all writes are stored in their order, not in their blocks'.
func TestFatesInOrder(t *testing.T) {
	const blocks = 100
	for seed := range int64(5) {
		r := rand.New(rand.NewSource(seed))
		x := newBoth(t, blocks)
		for range 300 {
			x.write(r.Intn(blocks), grained(byte(r.Intn(256))))
		}
		x.crash()
		fates := make([]int, 1+r.Intn(400))
		for i := range fates {
			fates[i] = r.Intn(257)
		}
		x.on(fates...)
		x.holds()
	}
}

// P10.3: On does nothing while the power is on, and takes none of the writes
// that no longer wait.
func TestOnWhileUp(t *testing.T) {
	x := newBoth(t, 2)
	x.write(0, filled(1))
	x.on()
	x.on(0)
	stands(t, x.d, 1, 1, true)
	has(t, x.d, 0, filled(1))
	x.flush()
	x.write(0, filled(2))
	x.write(1, filled(3))
	x.poke(0, 0, nil) // so the first one that waits is that of block 1
	x.crash()
	x.on(5, 9)
	has(t, x.d, 0, filled(2))
	has(t, x.d, 1, torn(3, 0, 5))
	x.holds()
}

// P10.3: a Crash leaves what waits, and is no access.
func TestCrash(t *testing.T) {
	d := made(t, 1)
	d.Write(0, filled(1))
	d.Crash()
	stands(t, d, 1, 1, false)
	d.Crash()
	stands(t, d, 1, 1, false)
	d.On([]int{256})
	stands(t, d, 0, 1, true)
	has(t, d, 0, filled(1))
}

// The chapter's examples.
func TestExamples(t *testing.T) {
	for _, c := range []struct{ fate, k int }{{0, 0}, {256, 256}, {10, 10}} {
		d := made(t, 4)
		a, b := grained(0x55), grained(0xaa)
		answers(t, "Write", d.Write(3, a), api.OK)
		answers(t, "Flush", d.Flush(), api.OK)
		answers(t, "Write", d.Write(3, b), api.OK)
		d.Crash()
		d.On([]int{c.fate})
		has(t, d, 3, append(bytes.Clone(b[:c.k]), a[c.k:]...))
	}
	d := made(t, 4)
	d.Arm(2)
	answers(t, "Write", d.Write(0, filled(1)), api.OK)
	answers(t, "Write", d.Write(1, filled(1)), api.ErrDown)
	stands(t, d, 2, 2, false)
}

// P10.4: Poke turns bytes by xor, and takes what it asks for by its numbers.
func TestPoke(t *testing.T) {
	d := made(t, 2)
	d.Write(1, grained(0))
	d.Flush()
	want := grained(0)
	for _, c := range []struct {
		at int
		by []byte
	}{
		{0, []byte{0xff}}, {255, []byte{1}}, {254, []byte{1, 2}}, {0, grained(0x3c)}, {100, []byte{0, 0, 7}},
		{1, grained(5)[:255]}, {0, nil}, {0, []byte{}}, {255, nil}, {256, nil}, {256, []byte{}},
	} {
		answers(t, "Poke", d.Poke(1, c.at, c.by), api.OK)
		for i, x := range c.by {
			want[c.at+i] ^= x
		}
		has(t, d, 1, want)
		has(t, d, 0, make([]byte, 256))
	}
	stands(t, d, 0, 2, true)
}

// P10.4: ErrArg of Poke, whose errors change nothing (R5).
func TestPokeRefuses(t *testing.T) {
	x := newBoth(t, 2)
	x.write(1, grained(0))
	for _, c := range []struct {
		block, at int
		by        []byte
	}{
		{-1, 0, nil}, {2, 0, nil}, {math.MinInt, 0, nil}, {math.MaxInt, 0, nil}, {-1, 0, []byte{1}}, {2, 0, []byte{1}},
		{1, -1, nil}, {1, -1, []byte{1, 2}}, {1, math.MinInt, nil}, {1, math.MinInt, []byte{1}},
		{1, 257, nil}, {1, 257, []byte{}}, {1, math.MaxInt, nil}, {1, math.MaxInt, []byte{1, 2}},
		{1, 256, []byte{1}}, {1, 255, []byte{1, 2}}, {1, 1, filled(1)}, {1, 0, append(filled(1), 1)}, {1, 0, make([]byte, 10000)},
	} {
		answers(t, "Poke", x.d.Poke(c.block, c.at, c.by), api.ErrArg)
		x.holds()
	}
	x.crash()
	answers(t, "Poke", x.d.Poke(2, 0, nil), api.ErrArg)
	x.on(256)
	x.holds()
}

// P10.4: a Poke and a Copy of a block of which writes wait: it is stored as it
// reads, and no write of it waits; all others wait on.
func TestAdversaryAndWaits(t *testing.T) {
	for _, by := range [][]byte{nil, {7}} {
		x := newBoth(t, 3)
		for i, block := range []int{0, 1, 0, 2, 0, 1} {
			x.write(block, grained(byte(i)))
		}
		x.poke(0, 3, by)
		stands(t, x.d, 3, 6, true)
		x.holds()
		x.copy(1, 2) // to: its write is gone; from: its writes wait on
		stands(t, x.d, 2, 6, true)
		has(t, x.d, 2, grained(5))
		has(t, x.d, 1, grained(5))
		x.holds()
		x.crash()
		x.on() // what was stored stays, what waited is lost
		has(t, x.d, 1, make([]byte, 256))
		has(t, x.d, 2, grained(5))
		x.holds()
		x.write(0, filled(1)) // a write behind a Poke waits as any other
		x.poke(2, 0, []byte{1})
		stands(t, x.d, 1, 7, true)
		has(t, x.d, 0, filled(1))
		x.holds()
	}
}

// P10.4: Copy, of a block onto itself and onto others; its errors.
func TestCopy(t *testing.T) {
	x := newBoth(t, 3)
	x.write(0, grained(1))
	x.write(0, grained(2))
	x.write(1, grained(3))
	x.copy(0, 0)
	stands(t, x.d, 1, 3, true)
	has(t, x.d, 0, grained(2))
	x.crash()
	x.on()
	has(t, x.d, 0, grained(2))
	x.copy(0, 2)
	x.poke(0, 0, []byte{1}) // the copy has bytes of its own
	has(t, x.d, 2, grained(2))
	x.write(1, grained(4))
	for _, n := range []int{-1, 3, math.MinInt, math.MaxInt} {
		answers(t, "Copy", x.d.Copy(n, 1), api.ErrArg)
		answers(t, "Copy", x.d.Copy(1, n), api.ErrArg)
		answers(t, "Copy", x.d.Copy(n, n), api.ErrArg)
		x.holds()
	}
}

// P10.4: MaxCopies images, one more, and Back to each of them.
func TestSnapAndBack(t *testing.T) {
	x := newBoth(t, 3)
	answers(t, "Back", x.d.Back(0), api.ErrArg)
	for i := range api.MaxCopies {
		answers(t, "Back", x.d.Back(i), api.ErrArg)
		x.write(i%3, grained(byte(i))) // it waits, and is kept all the same
		if i == 4 {
			x.flush()
		}
		n, e := x.d.Snap()
		if n != i || e != api.OK {
			t.Fatalf("Snap: %d, %d, not %d", n, e, i)
		}
		x.b.snap()
		x.holds()
	}
	for range 2 {
		if n, e := x.d.Snap(); n != 0 || e != api.ErrFull {
			t.Fatalf("Snap: %d, %d", n, e)
		}
	}
	x.holds()
	for _, n := range []int{3, 7, 0, 5, 1, 6, 2, 4, 4, 0} {
		x.write(1, filled(0xee))
		x.write(2, filled(0xef))
		x.back(n)
		if x.d.Waits() != 0 {
			t.Fatal("something waits")
		}
		x.holds()
		x.poke(0, 0, filled(0xff)) // what is kept has bytes of its own
		x.write(1, filled(0xdd))
		for _, m := range []int{-1, 8, 9, math.MinInt, math.MaxInt} {
			answers(t, "Back", x.d.Back(m), api.ErrArg)
		}
		x.holds()
		x.flush()
	}
	if n, e := x.d.Snap(); n != 0 || e != api.ErrFull { // Back takes none of them away
		t.Fatalf("Snap: %d, %d", n, e)
	}
}

// P10.4: the adversary works while the power is off, and is no access, and what
// is armed stays.
func TestAdversaryWhileDown(t *testing.T) {
	x := newBoth(t, 3)
	x.write(0, grained(1))
	x.write(1, grained(2))
	x.write(1, grained(3))
	x.crash()
	x.snap()
	x.poke(0, 10, []byte{1, 2, 3})
	stands(t, x.d, 2, 3, false)
	x.copy(1, 2)
	stands(t, x.d, 2, 3, false)
	x.snap()
	x.on(4)
	x.holds()
	x.crash()
	x.back(1)
	stands(t, x.d, 0, 3, false)
	x.on(7)
	x.holds()
	has(t, x.d, 2, grained(3))
	x.back(0)
	x.holds()
	has(t, x.d, 1, grained(3))

	x.write(0, filled(1))
	x.crash()
	x.back(0) // nothing waits: the fates find nothing
	x.on(256)
	x.holds()

	x.arm(2)
	x.poke(0, 0, nil)
	x.copy(0, 1)
	x.snap()
	x.back(0)
	x.spend()
	x.spend()
	if x.d.Up() {
		t.Fatal("the power stayed")
	}
}

// P10.5: a nil *Device.
func TestNil(t *testing.T) {
	var d *Device
	for range 2 {
		if b, e := d.Read(0); b != nil || e != api.ErrNone {
			t.Fatalf("Read: %x, %d", b, e)
		}
		answers(t, "Write", d.Write(0, filled(1)), api.ErrNone)
		answers(t, "Write", d.Write(-1, nil), api.ErrNone)
		answers(t, "Flush", d.Flush(), api.ErrNone)
		answers(t, "Poke", d.Poke(0, 0, nil), api.ErrNone)
		answers(t, "Poke", d.Poke(-1, -1, nil), api.ErrNone)
		answers(t, "Copy", d.Copy(0, 0), api.ErrNone)
		answers(t, "Copy", d.Copy(-1, 1), api.ErrNone)
		if n, e := d.Snap(); n != 0 || e != api.ErrNone {
			t.Fatalf("Snap: %d, %d", n, e)
		}
		answers(t, "Back", d.Back(0), api.ErrNone)
		answers(t, "Back", d.Back(-1), api.ErrNone)
		if d.Spend() || d.Blocks() != 0 || len(d.Written()) != 0 {
			t.Fatal("a nil device has something")
		}
		stands(t, d, 0, 0, false)
		d.Arm(1)
		d.Crash()
		d.On([]int{1})
	}
}

// Beyond the promises: a device that New did not make has no blocks.
func TestZero(t *testing.T) {
	d := &Device{}
	stands(t, d, 0, 0, false)
	answers(t, "Write", d.Write(0, filled(1)), api.ErrDown)
	d.On([]int{1})
	answers(t, "Write", d.Write(0, filled(1)), api.ErrArg)
	answers(t, "Flush", d.Flush(), api.OK)
	answers(t, "Poke", d.Poke(0, 0, nil), api.ErrArg)
	if n, e := d.Snap(); n != 0 || e != api.OK {
		t.Fatalf("Snap: %d, %d", n, e)
	}
	answers(t, "Back", d.Back(0), api.OK)
	stands(t, d, 0, 1, true)
}

// R4: what is handed in stays as it was, also behind its length, and isn't
// kept.
func TestHandedIn(t *testing.T) {
	d := made(t, 2)
	room := bytes.Repeat([]byte{9}, 300)
	copy(room, grained(1))
	before := bytes.Clone(room)
	answers(t, "Write", d.Write(0, room[:256]), api.OK)
	answers(t, "Poke", d.Poke(1, 10, room[:200]), api.OK)
	if !bytes.Equal(room, before) {
		t.Fatal("bytes that were handed in are others")
	}
	clear(room)
	has(t, d, 0, grained(1))
	want := make([]byte, 256)
	copy(want[10:], grained(1)[:200])
	has(t, d, 1, want)
	sameWritten(t, d.Written(), []api.Written{{Block: 0, Bytes: grained(1)}})

	answers(t, "Write", d.Write(1, filled(1)), api.OK)
	fates := []int{3, -1, 500, 77, 78}
	d.Crash()
	d.On(fates[:2])
	if !slices.Equal(fates, []int{3, -1, 500, 77, 78}) {
		t.Fatal("fates that were handed in are others")
	}
	has(t, d, 0, append(bytes.Clone(grained(1)[:3]), make([]byte, 253)...))
	has(t, d, 1, filled(1))
	clear(fates)
	d.Crash()
	d.On(nil)
	has(t, d, 1, filled(1))
}

// R4: who writes into what is handed back turns nothing in the device.
func TestHandedBack(t *testing.T) {
	x := newBoth(t, 2)
	x.write(0, grained(1))
	x.flush()
	x.write(1, grained(2))
	x.snap()
	for block := range 2 { // a stored one and one that waits
		b, _ := x.d.Read(block)
		c, _ := x.d.Read(block)
		clear(b[:cap(b)])
		if bytes.Equal(b, c) {
			t.Fatal("two answers share their memory")
		}
		x.holds()
	}
	told, other := x.d.Written(), x.d.Written()
	for i := range told {
		told[i].Block = 77
		clear(told[i].Bytes[:cap(told[i].Bytes)])
		if i == 0 && !bytes.Equal(told[1].Bytes, grained(2)) {
			t.Fatal("two lists of one answer share their memory")
		}
	}
	_ = append(told, api.Written{})
	sameWritten(t, other, x.b.written)
	x.holds()
	x.back(0)
	x.holds()
	x.flush()
	x.holds()
}

// R6: what a device answers hangs on its own calls alone.
func TestApart(t *testing.T) {
	a, b := newBoth(t, 2), newBoth(t, 2)
	a.write(0, filled(1))
	b.write(1, filled(2))
	a.arm(1)
	a.snap()
	b.flush()
	a.flush()
	b.back(0)
	a.holds()
	b.holds()
}

// The last block of the greatest device, and all of it in an image.
func TestGreatest(t *testing.T) {
	d := made(t, api.MaxBlocks)
	const last = api.MaxBlocks - 1
	d.Write(last, grained(1))
	d.Write(0, grained(2))
	if n, e := d.Snap(); n != 0 || e != api.OK {
		t.Fatalf("Snap: %d, %d", n, e)
	}
	d.Poke(last, 0, filled(0xff))
	d.Copy(last, 1)
	has(t, d, 1, grained(0xfe))
	answers(t, "Back", d.Back(0), api.OK)
	has(t, d, last, grained(1))
	has(t, d, 0, grained(2))
	has(t, d, 1, make([]byte, 256))
}

// run goes through steps that are told by bytes, with a device and its book.
func run(t testing.TB, steps []byte) {
	next := func() int {
		if len(steps) == 0 {
			return 0
		}
		n := steps[0]
		steps = steps[1:]
		return int(n)
	}
	odd := []int{-1, math.MinInt, math.MaxInt, 256, 257, 65536}
	number := func(below int) int { // mostly one of those below, now and then one that isn't
		n := next()
		if n >= 250 {
			return odd[n-250]
		}
		return n % below
	}
	x := newBoth(t, 1+next()%5)
	blocks := x.d.Blocks()
	for len(steps) > 0 {
		switch next() % 12 {
		case 0, 1, 2:
			x.write(number(blocks), grained(byte(next())))
		case 3:
			x.write(number(blocks), make([]byte, number(300)&0x1ff))
		case 4:
			x.flush()
		case 5:
			x.spend()
		case 6:
			x.arm(number(6))
		case 7:
			x.crash()
		case 8:
			fates := make([]int, next()%6)
			for i := range fates {
				fates[i] = number(250) + number(250) - 200
			}
			x.on(fates...)
		case 9:
			x.poke(number(blocks), number(250), grained(byte(next()))[:next()])
		case 10:
			x.copy(number(blocks), number(blocks))
		case 11:
			if next()%2 == 0 {
				x.snap()
			} else {
				x.back(number(9))
			}
		}
		x.holds()
	}
}

// All promises at once, over many steps: the device answers as the book does.
func TestRandom(t *testing.T) {
	for seed := range int64(400) {
		r := rand.New(rand.NewSource(seed))
		steps := make([]byte, 300)
		r.Read(steps)
		run(t, steps)
	}
}

func FuzzSteps(f *testing.F) {
	f.Add([]byte{3, 0, 1, 5, 4, 0, 1, 6, 7, 8, 1, 10, 200})
	f.Add([]byte{0, 6, 2, 0, 0, 1, 0, 0, 2, 8, 0})
	f.Fuzz(func(t *testing.T, steps []byte) { run(t, steps[:min(len(steps), 1000)]) })
}
