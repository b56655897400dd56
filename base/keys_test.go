package base

import (
	"bytes"
	"math"
	"math/rand"
	"slices"
	"testing"

	"thimble/api"
	"thimble/ghost"
)

// entries are those at the ends of their numbers, the zero one too, and one each
// byte of which is another one.
var entries = []api.Entry{
	{}, {Epoch: 1}, {Boot: 1}, {Seq: 1},
	{Epoch: math.MaxUint32}, {Boot: math.MaxUint32}, {Seq: math.MaxUint64},
	{Epoch: math.MaxUint32, Boot: math.MaxUint32, Seq: math.MaxUint64},
	{Epoch: 0x01020304, Boot: 0x05060708, Seq: 0x090a0b0c0d0e0f10},
}

// pageNumbers are numbers of pages, also such that no page has.
var pageNumbers = []int{0, 1, 255, 256, 4095, 4096, 0x01020304, math.MaxUint32, 1 << 32, 1<<32 + 7, math.MaxInt, -1, math.MinInt, math.MinInt + 3}

var masters = [][]byte{nil, []byte("m"), []byte("master"), bytes.Repeat([]byte{9}, 64), bytes.Repeat([]byte{8}, 65)}

// lengths are those of what is handed in to be sealed.
var lengths = []int{0, 1, 15, 16, 17, 239, 240, 241, 255, 256, 257, 1000}

func sameTuple(a, b api.Tuple) bool {
	return a.Epoch == b.Epoch && a.Nonce == b.Nonce && bytes.Equal(a.Aad, b.Aad) && bytes.Equal(a.Sealed, b.Sealed)
}

// counts holds how many seals and openings the log has.
func counts(t testing.TB, l *ghost.Log, sealed, opened int) {
	t.Helper()
	if h, s, o := l.Count(); h != 0 || s != sealed || o != opened {
		t.Fatalf("the log has %d, %d, %d, not 0, %d, %d", h, s, o, sealed, opened)
	}
}

// refusesOpen holds that Open answers this error, nothing beside it, and leaves no trace.
func refusesOpen(t testing.TB, k *Keys, l *ghost.Log, x api.Entry, page int, b []byte, want api.Errno) {
	t.Helper()
	_, s, o := l.Count()
	if p, e := k.Open(x, page, b); e != want || p != nil {
		t.Fatalf("Open(%v, %d, %x) = %x, %d, not %d", x, page, b, p, e, want)
	}
	counts(t, l, s, o)
}

// P22.1: under all masters, entries and pages, both lengths of keys: the library's sealing.
func TestSealOpen(t *testing.T) {
	g := rand.New(rand.NewSource(1))
	for i, master := range masters {
		for _, wide := range []bool{false, true} {
			l := ghost.New()
			k := NewKeys(master, wide, l)
			n := 0
			for _, x := range entries {
				for _, page := range pageNumbers {
					data := noise(g, lengths[(i+n)%len(lengths)])
					plain := padded(data)
					b := k.Seal(x, page, data)
					if len(b) != 256 || !bytes.Equal(b, sealed(master, wide, x, page, plain)) {
						t.Fatalf("Seal(%v, %d, %x) = %x", x, page, data, b)
					}
					if p, e := k.Open(x, page, b); e != api.OK || !bytes.Equal(p, plain) {
						t.Fatalf("Open(%v, %d) = %x, %d, not %x", x, page, p, e, plain)
					}
					n++
					counts(t, l, n, n)
				}
			}
			if _, forged := l.Forged(); forged {
				t.Fatal("what was sealed is told to be forged")
			}
		}
	}
}

// P22.1: data of each length: what is behind 240 bytes doesn't count, what is not there is 00.
func TestSealLength(t *testing.T) {
	g := rand.New(rand.NewSource(2))
	k := NewKeys([]byte("master"), false, nil)
	x := api.Entry{Epoch: 3, Boot: 1, Seq: 2}
	for n := range 520 {
		data := noise(g, n)
		if b := k.Seal(x, 5, data); !bytes.Equal(b, sealed([]byte("master"), false, x, 5, padded(data))) {
			t.Fatalf("Seal of %d bytes", n)
		}
	}
	if !bytes.Equal(k.Seal(x, 5, nil), sealed([]byte("master"), false, x, 5, zeroPage)) {
		t.Fatal("Seal of nothing")
	}
}

// P22.1: what is noted of a seal and of an opening, field by field.
func TestNoted(t *testing.T) {
	for _, x := range entries {
		for _, page := range pageNumbers {
			l, other := ghost.New(), ghost.New()
			k := NewKeys([]byte("master"), true, l)
			first, second := k.Seal(x, page, []byte("a")), k.Seal(x, page, []byte("b"))
			want := tupleOf(x, page)
			want.Sealed = first
			a, b, ok := l.Twice()
			if !ok || !sameTuple(a, want) {
				t.Fatalf("noted: %v, not %v", a, want)
			}
			NewKeys([]byte("master"), true, other).Open(x, page, second)
			want.Sealed = second
			if o, forged := other.Forged(); !sameTuple(b, want) || !forged || !sameTuple(o, want) {
				t.Fatalf("noted: %v, and opened %v, not %v", b, o, want)
			}
			if blocks := l.Blocks(); len(blocks) != 2 || !bytes.Equal(blocks[0], first) || !bytes.Equal(blocks[1], second) {
				t.Fatalf("the log has the blocks %x", blocks)
			}
		}
	}
}

// P22.1: any turned bit, and any length, refuses.
func TestOpenTurned(t *testing.T) {
	l := ghost.New()
	k := NewKeys([]byte("master"), false, l)
	x := api.Entry{Epoch: 3, Boot: 1, Seq: 9}
	b := k.Seal(x, 5, []byte("text"))
	for i := range 8 * len(b) {
		bad := slices.Clone(b)
		bad[i/8] ^= 1 << (i % 8)
		refusesOpen(t, k, l, x, 5, bad, api.ErrCorrupt)
	}
	for n := range len(b) {
		want := api.ErrCorrupt
		if n < 16 {
			want = api.ErrShort
		}
		refusesOpen(t, k, l, x, 5, b[:n], want)
	}
	refusesOpen(t, k, l, x, 5, nil, api.ErrShort)
	refusesOpen(t, k, l, x, 5, append(slices.Clone(b), 0), api.ErrCorrupt)
	refusesOpen(t, k, l, x, 5, bytes.Repeat(b, 2), api.ErrCorrupt)
}

// P22.1: another page, epoch, boot or number, another master key or length of keys
// refuses; only the lowest 32 bits of a page's number go along.
func TestOpenAs(t *testing.T) {
	l := ghost.New()
	k := NewKeys([]byte("master"), false, l)
	x := api.Entry{Epoch: 3, Boot: 1, Seq: 9}
	b := k.Seal(x, 5, []byte("text"))
	for bit := range 64 {
		page := 5 ^ 1<<bit
		if bit < 32 {
			refusesOpen(t, k, l, x, page, b, api.ErrCorrupt)
		} else if _, e := k.Open(x, page, b); e != api.OK {
			t.Fatalf("Open as page %d: %d", page, e)
		}
		y := x
		y.Seq ^= 1 << bit
		refusesOpen(t, k, l, y, 5, b, api.ErrCorrupt)
	}
	for bit := range 32 {
		y, z := x, x
		y.Epoch ^= 1 << bit
		z.Boot ^= 1 << bit
		refusesOpen(t, k, l, y, 5, b, api.ErrCorrupt)
		refusesOpen(t, k, l, z, 5, b, api.ErrCorrupt)
	}
	refusesOpen(t, NewKeys([]byte("master"), true, l), l, x, 5, b, api.ErrCorrupt)
	refusesOpen(t, NewKeys([]byte("Master"), false, l), l, x, 5, b, api.ErrCorrupt)
	refusesOpen(t, NewKeys(nil, false, l), l, x, 5, b, api.ErrCorrupt)
}

// P22.1: Open is gcm's: what was sealed by another hand, of any length, is taken,
// and noted, so that a judge finds it.
func TestOpenAny(t *testing.T) {
	x := api.Entry{Epoch: 3, Boot: 1, Seq: 9}
	for _, n := range []int{0, 1, 16, 100, 239, 241, 500} {
		plain := bytes.Repeat([]byte{7}, n)
		b := sealed([]byte("master"), false, x, 5, plain)
		l := ghost.New()
		p, e := NewKeys([]byte("master"), false, l).Open(x, 5, b)
		if e != api.OK || !bytes.Equal(p, plain) {
			t.Fatalf("Open of %d bytes = %x, %d", len(b), p, e)
		}
		want := tupleOf(x, 5)
		want.Sealed = b
		if o, forged := l.Forged(); !forged || !sameTuple(o, want) {
			t.Fatalf("opened: %v", o)
		}
	}
}

// P22.1: epochs in turns, each of which has its own key, all the time.
func TestEpochs(t *testing.T) {
	k := NewKeys([]byte("master"), true, nil)
	seen := map[string]int{}
	for i := range 300 {
		x := api.Entry{Epoch: uint32(i % 7 * 1000), Boot: 2, Seq: 5}
		b := k.Seal(x, 1, []byte("text"))
		if !bytes.Equal(b, sealed([]byte("master"), true, x, 1, padded([]byte("text")))) {
			t.Fatalf("Seal %d under epoch %d", i, x.Epoch)
		}
		seen[string(b)]++
	}
	if len(seen) != 7 {
		t.Fatalf("7 epochs make %d blocks", len(seen))
	}
}

// P22.1: of nil Keys, and of such as NewKeys didn't make (those of nothing, without a log).
func TestNoKeys(t *testing.T) {
	var k *Keys
	x := api.Entry{Epoch: 3, Boot: 1, Seq: 9}
	b := sealed(nil, false, x, 5, padded([]byte("text")))
	if s := k.Seal(x, 5, []byte("text")); s != nil {
		t.Fatalf("Seal = %x", s)
	}
	for _, c := range [][]byte{nil, b, b[:3]} {
		if p, e := k.Open(x, 5, c); p != nil || e != api.ErrNone {
			t.Fatalf("Open = %x, %d", p, e)
		}
	}
	var zero Keys
	if p, e := zero.Open(x, 5, b); e != api.OK || string(p[:4]) != "text" {
		t.Fatalf("Open = %x, %d", p, e)
	}
	if s := zero.Seal(x, 5, []byte("text")); !bytes.Equal(s, b) {
		t.Fatalf("Seal = %x", s)
	}
}

// R4: nothing that is handed in is changed or kept, the room behind it isn't read,
// and what is answered is new.
func TestKeysMemory(t *testing.T) {
	master := []byte("master")
	l := ghost.New()
	k := NewKeys(master, false, l)
	master[0] = 'x'
	x := api.Entry{Epoch: 3, Boot: 1, Seq: 9}
	room := []byte("text and what is behind it")
	data := room[:4]
	b := k.Seal(x, 5, data)
	want := sealed([]byte("master"), false, x, 5, padded([]byte("text")))
	if !bytes.Equal(b, want) || string(room) != "text and what is behind it" {
		t.Fatalf("Seal = %x; %s", b, room)
	}
	p, _ := k.Open(x, 5, b)
	clear(p)
	p, e := k.Open(x, 5, b)
	if e != api.OK || !bytes.Equal(p, padded([]byte("text"))) || !bytes.Equal(b, want) {
		t.Fatalf("Open = %x, %d", p, e)
	}
	clear(b)
	if !bytes.Equal(l.Blocks()[0], want) || !bytes.Equal(k.Seal(x, 5, data), want) {
		t.Fatal("the log or the keys share memory with an answer")
	}
	if _, forged := l.Forged(); forged {
		t.Fatal("forged")
	}
}
