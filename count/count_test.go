package count

import (
	"bytes"
	"encoding/binary"
	"math"
	"math/rand"
	"slices"
	"testing"

	"thimble/api"
)

// all is an entry each byte of which is another one.
var all = api.Entry{Epoch: 0x01020304, Boot: 0x15161718, Seq: 0x292a2b2c2d2e2f20}

// wrongPlaces are numbers that no entry of a counter block has.
var wrongPlaces = []int{math.MinInt, math.MinInt + 1, math.MinInt + 15, math.MinInt32, -256, -240, -17, -16, -15, -1, 16, 17, 31, 255, 256, 257, 1 << 28, 1 << 32, 1<<60 + 3, math.MaxInt32, math.MaxInt - 15, math.MaxInt}

// wrongLengths are lengths that no counter block has, in two lists: those that
// are too short, and those that are too long.
func wrongLengths() (short, long []int) {
	for n := range 256 {
		short = append(short, n)
		long = append(long, n+257)
	}
	return short, append(long, 1<<16, 1<<16+256, 1<<20)
}

// entries has the edges of each number, one alone and all together, and entries
// from a fixed row.
func entries() []api.Entry {
	small := []uint32{0, 1, 127, 128, 255, 256, 1<<16 - 1, 1 << 16, 1<<24 - 1, 1 << 24, 1<<31 - 1, 1 << 31, math.MaxUint32 - 1, math.MaxUint32}
	l := []api.Entry{all}
	for _, n := range small {
		l = append(l, api.Entry{Epoch: n}, api.Entry{Boot: n}, api.Entry{Seq: uint64(n)}, api.Entry{Seq: uint64(n) << 32})
		l = append(l, api.Entry{Epoch: n, Boot: n, Seq: uint64(n)<<32 | uint64(n)})
		l = append(l, api.Entry{Epoch: ^n, Boot: n, Seq: ^uint64(n)})
	}
	g := rand.New(rand.NewSource(17))
	for range 300 {
		l = append(l, random(g))
	}
	return l
}

func random(g *rand.Rand) api.Entry {
	return api.Entry{Epoch: g.Uint32() >> g.Intn(32), Boot: g.Uint32() >> g.Intn(32), Seq: g.Uint64() >> g.Intn(64)}
}

// asBytes is an entry's bytes by the library's own writing.
func asBytes(x api.Entry) []byte {
	b := binary.BigEndian.AppendUint32(nil, x.Epoch)
	b = binary.BigEndian.AppendUint32(b, x.Boot)
	return binary.BigEndian.AppendUint64(b, x.Seq)
}

// block is the counter block of these entries, laid one behind the other.
func block(l []api.Entry) []byte {
	var b []byte
	for _, x := range l {
		b = append(b, asBytes(x)...)
	}
	return append(b, make([]byte, 256-len(b))...)
}

// full is a counter block's sixteen entries, all unlike, and no byte of them 00.
func full() []api.Entry {
	l := make([]api.Entry, 16)
	for i := range l {
		n := uint32(i+1) * 0x01010101
		l[i] = api.Entry{Epoch: n | 0x40404040, Boot: n | 0x80808080, Seq: (uint64(n)<<32 | uint64(n)) | 0xc0c0c0c0c0c0c0c0}
	}
	return l
}

// P17.1: the document's example, byte by byte.
func TestExample(t *testing.T) {
	want := append([]byte{0, 0, 0, 1, 0, 0, 0, 2, 0, 0, 0, 0, 0, 0, 0, 3}, make([]byte, 240)...)
	if b, e := Pack([]api.Entry{{Epoch: 1, Boot: 2, Seq: 3}}); e != api.OK || !bytes.Equal(b, want) {
		t.Errorf("Pack = %x, %d", b, e)
	}
}

// P17.1: which byte of an entry stands where, by hand.
func TestBytesByHand(t *testing.T) {
	b, e := Pack([]api.Entry{{}, all})
	want := []byte{1, 2, 3, 4, 0x15, 0x16, 0x17, 0x18, 0x29, 0x2a, 0x2b, 0x2c, 0x2d, 0x2e, 0x2f, 0x20}
	if e != api.OK || len(b) != 256 || !bytes.Equal(b[16:32], want) {
		t.Fatalf("Pack = %x, %d", b, e)
	}
	if l, e := Open(b); e != api.OK || l[1] != all {
		t.Errorf("Open = %x, %d", l, e)
	}
	if x, e := Get(b, 1); e != api.OK || x != all {
		t.Errorf("Get = %x, %d", x, e)
	}
}

// P17.1: Pack of each count of entries, and Open of what it made: those, and zero ones behind them.
func TestPackOpen(t *testing.T) {
	g := rand.New(rand.NewSource(1))
	for round := range 40 {
		for many := 0; many <= 16; many++ {
			l := full()[:many]
			for i := range l {
				if round > 0 {
					l[i] = random(g)
				}
			}
			b, e := Pack(l)
			if e != api.OK || !bytes.Equal(b, block(l)) {
				t.Fatalf("Pack(%x) = %x, %d", l, b, e)
			}
			got, e := Open(b)
			if e != api.OK || len(got) != 16 || !slices.Equal(got[:many], l) || !slices.Equal(got[many:], make([]api.Entry, 16-many)) {
				t.Fatalf("Open of Pack(%x) = %x, %d", l, got, e)
			}
		}
	}
}

// P17.1: nothing, nil or without elements, is a block of zero entries.
func TestPackNothing(t *testing.T) {
	for _, l := range [][]api.Entry{nil, {}, make([]api.Entry, 16)} {
		if b, e := Pack(l); e != api.OK || !bytes.Equal(b, make([]byte, 256)) {
			t.Errorf("Pack(%x) = %x, %d", l, b, e)
		}
	}
}

// P17.1: more than sixteen entries, zero ones too, and nothing beside the error.
func TestPackTooMany(t *testing.T) {
	for _, many := range []int{17, 18, 31, 32, 33, 256, 272, 4096, 1 << 16, 1<<16 + 16} {
		l := make([]api.Entry, many)
		for range 2 {
			if b, e := Pack(l); e != api.ErrArg || b != nil {
				t.Errorf("Pack of %d = %x, %d", many, b, e)
			}
			for i := range l {
				l[i] = all
			}
		}
	}
}

// P17.1: each entry of its kind, at each place.
func TestGetSet(t *testing.T) {
	old := full()
	for _, x := range entries() {
		for i := range 16 {
			want := slices.Clone(old)
			want[i] = x
			b, e := Set(block(old), i, x)
			if e != api.OK || !bytes.Equal(b, block(want)) {
				t.Fatalf("Set(%d, %x) = %x, %d", i, x, b, e)
			}
			if l, e := Open(b); e != api.OK || !slices.Equal(l, want) {
				t.Fatalf("Open behind Set(%d, %x) = %x, %d", i, x, l, e)
			}
			for j := range 16 {
				if y, e := Get(b, j); e != api.OK || y != want[j] {
					t.Fatalf("Get(%d) behind Set(%d, %x) = %x, %d", j, i, x, y, e)
				}
			}
		}
	}
}

// P17.1: any 256 bytes are a counter block, and Pack makes them again.
func TestAnyBytes(t *testing.T) {
	g := rand.New(rand.NewSource(2))
	for range 500 {
		b := make([]byte, 256)
		g.Read(b)
		l, e := Open(b)
		if e != api.OK || len(l) != 16 || !bytes.Equal(block(l), b) {
			t.Fatalf("Open(%x) = %x, %d", b, l, e)
		}
		if again, e := Pack(l); e != api.OK || !bytes.Equal(again, b) {
			t.Fatalf("Pack(%x) = %x, %d, not %x", l, again, e, b)
		}
		for i := range 16 {
			if x, e := Get(b, i); e != api.OK || x != l[i] {
				t.Fatalf("Get(%x, %d) = %x, %d", b, i, x, e)
			}
			if again, e := Set(b, i, l[i]); e != api.OK || !bytes.Equal(again, b) {
				t.Fatalf("Set(%x, %d) = %x, %d", b, i, again, e)
			}
		}
	}
}

// refusal holds that each call on b and i answers this error and nothing beside it.
func refusal(t *testing.T, b []byte, i int, want api.Errno) {
	t.Helper()
	if x, e := Get(b, i); e != want || x != (api.Entry{}) {
		t.Fatalf("Get(%d bytes, %d) = %x, %d, not %d", len(b), i, x, e, want)
	}
	if c, e := Set(b, i, all); e != want || c != nil {
		t.Fatalf("Set(%d bytes, %d) = %x, %d, not %d", len(b), i, c, e, want)
	}
}

// P17.1: bytes that are too few or too many: that is told first, wherever i is.
func TestWrongLength(t *testing.T) {
	places := append([]int{0, 1, 7, 15}, wrongPlaces...)
	hold := func(b []byte, want api.Errno) {
		t.Helper()
		if l, e := Open(b); e != want || l != nil {
			t.Fatalf("Open of %d bytes = %x, %d, not %d", len(b), l, e, want)
		}
		for _, i := range places {
			refusal(t, b, i, want)
		}
	}
	short, long := wrongLengths()
	for _, n := range short {
		hold(bytes.Repeat([]byte{7}, n), api.ErrShort)
	}
	for _, n := range long {
		hold(bytes.Repeat([]byte{7}, n), api.ErrLong)
	}
	hold(nil, api.ErrShort)
}

// P17.1: places that aren't there.
func TestWrongPlace(t *testing.T) {
	for _, b := range [][]byte{make([]byte, 256), block(full())} {
		for _, i := range wrongPlaces {
			refusal(t, b, i, api.ErrArg)
		}
	}
}

// P17.2: which byte of a nonce stands where, by hand.
func TestNonceByHand(t *testing.T) {
	for _, c := range []struct {
		x    api.Entry
		want [12]byte
	}{
		{api.Entry{}, [12]byte{}},
		{api.Entry{Epoch: 1, Boot: 2, Seq: 3}, [12]byte{3: 2, 11: 3}},
		{all, [12]byte{0x15, 0x16, 0x17, 0x18, 0x29, 0x2a, 0x2b, 0x2c, 0x2d, 0x2e, 0x2f, 0x20}},
		{api.Entry{Boot: math.MaxUint32}, [12]byte{255, 255, 255, 255}},
		{api.Entry{Seq: math.MaxUint64}, [12]byte{4: 255, 5: 255, 6: 255, 7: 255, 8: 255, 9: 255, 10: 255, 11: 255}},
		{api.Entry{Epoch: math.MaxUint32}, [12]byte{}},
	} {
		if n := Nonce(c.x); n != c.want {
			t.Errorf("Nonce(%x) = %x, not %x", c.x, n, c.want)
		}
	}
}

// P17.2: Boot and Seq are found again in the nonce, so unlike ones have unlike
// nonces; the epoch plays no part.
func TestNonce(t *testing.T) {
	type pair struct {
		boot uint32
		seq  uint64
	}
	seen := make(map[[12]byte]pair)
	for _, x := range entries() {
		n := Nonce(x)
		if boot, seq := binary.BigEndian.Uint32(n[:4]), binary.BigEndian.Uint64(n[4:]); boot != x.Boot || seq != x.Seq {
			t.Fatalf("Nonce(%x) = %x", x, n)
		}
		now := pair{x.Boot, x.Seq}
		if other, twice := seen[n]; twice && other != now {
			t.Fatalf("%x and %x have one nonce, %x", other, now, n)
		}
		seen[n] = now
		for _, epoch := range []uint32{0, 1, x.Epoch + 1, math.MaxUint32} {
			if other := Nonce(api.Entry{Epoch: epoch, Boot: x.Boot, Seq: x.Seq}); other != n {
				t.Fatalf("Nonce(%x) under the epoch %d is %x, not %x", x, epoch, other, n)
			}
		}
	}
}

// P17.2: pairs that are unlike in one bit alone.
func TestNonceBits(t *testing.T) {
	for _, x := range entries() {
		n := Nonce(x)
		for bit := range 96 {
			y := x
			if bit < 32 {
				y.Boot ^= 1 << bit
			} else {
				y.Seq ^= 1 << (bit - 32)
			}
			if Nonce(y) == n {
				t.Fatalf("%x and %x have one nonce, %x", x, y, n)
			}
		}
	}
}

// R4: what is answered is new memory, each time.
func TestNewMemory(t *testing.T) {
	b := block(full())
	for i := range 16 {
		first, _ := Set(b, i, all)
		second, _ := Set(b, i, all)
		kept := slices.Clone(second)
		for j := range first {
			first[j] ^= 255
		}
		if !bytes.Equal(b, block(full())) || !bytes.Equal(second, kept) {
			t.Fatalf("the answers of Set at %d share memory", i)
		}
	}
	first, _ := Open(b)
	second, _ := Open(b)
	clear(first)
	if !slices.Equal(second, full()) || !bytes.Equal(b, block(full())) {
		t.Fatal("the answers of Open share memory")
	}
	one, _ := Pack(nil)
	two, _ := Pack(nil)
	one[0] = 1
	if three, _ := Pack(nil); two[0] != 0 || three[0] != 0 {
		t.Fatal("the answers of Pack share memory")
	}
}

// R4: neither what is handed in changes, nor the room behind it, which isn't
// read either.
func TestHandedIn(t *testing.T) {
	room := append(full(), full()...)
	for many := 0; many <= 17; many++ {
		b, e := Pack(room[:many])
		if many <= 16 && (e != api.OK || !bytes.Equal(b, block(full()[:many]))) {
			t.Fatalf("Pack of %d = %x, %d", many, b, e)
		}
		if !slices.Equal(room, append(full(), full()...)) {
			t.Fatalf("Pack changed what it was handed: %x", room)
		}
	}
	whole := append(block(full()), bytes.Repeat([]byte{0xee}, 300)...)
	kept := slices.Clone(whole)
	for _, n := range []int{0, 1, 255, 256, 257, 300} {
		for _, i := range append([]int{0, 1, 8, 15}, wrongPlaces...) {
			Get(whole[:n], i)
			Set(whole[:n], i, all)
			Open(whole[:n])
			if !bytes.Equal(whole, kept) {
				t.Fatalf("what was handed in changed: %d bytes, %d", n, i)
			}
		}
	}
	if _, e := Open(whole[:255]); e != api.ErrShort {
		t.Errorf("Open read the room behind its bytes: %d", e)
	}
	b, e := Set(whole[:256], 15, all)
	if e != api.OK || len(b) != 256 {
		t.Fatalf("Set = %x, %d", b, e)
	}
	for i := range b[:cap(b)] {
		b[:cap(b)][i] = 0x11
	}
	if !bytes.Equal(whole, kept) {
		t.Error("Set's answer shares memory with what was handed in")
	}
}

func FuzzBlock(f *testing.F) {
	f.Add(make([]byte, 256), 0, uint32(1), uint32(2), uint64(3))
	f.Add(make([]byte, 255), 15, uint32(0), uint32(0), uint64(0))
	f.Add(make([]byte, 257), -1, uint32(math.MaxUint32), uint32(math.MaxUint32), uint64(math.MaxUint64))
	f.Fuzz(func(t *testing.T, b []byte, i int, epoch, boot uint32, seq uint64) {
		x := api.Entry{Epoch: epoch, Boot: boot, Seq: seq}
		kept := bytes.Clone(b)
		c, e := Set(b, i, x)
		if !bytes.Equal(b, kept) {
			t.Fatal("what was handed in changed")
		}
		switch {
		case len(b) < 256:
			refusal(t, b, i, api.ErrShort)
		case len(b) > 256:
			refusal(t, b, i, api.ErrLong)
		case i < 0 || i > 15:
			refusal(t, b, i, api.ErrArg)
		default:
			copy(kept[16*i:], asBytes(x))
			if e != api.OK || !bytes.Equal(c, kept) {
				t.Fatalf("Set(%x, %d, %x) = %x, %d", b, i, x, c, e)
			}
			if y, e := Get(c, i); e != api.OK || y != x {
				t.Fatalf("Get(%x, %d) = %x, %d", c, i, y, e)
			}
			if n := Nonce(x); !bytes.Equal(n[:], c[16*i+4:16*i+16]) {
				t.Fatalf("Nonce(%x) = %x", x, n)
			}
		}
	})
}
