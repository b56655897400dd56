package gcm

import (
	"bytes"
	libraryaes "crypto/aes"
	"crypto/cipher"
	"encoding/hex"
	"math/rand"
	"strings"
	"testing"

	"thimble/aes"
	"thimble/api"
	"thimble/ghash"
)

// unhex tells the bytes of a text in base 16; spaces in it count nothing.
func unhex(t testing.TB, text string) []byte {
	t.Helper()
	b, err := hex.DecodeString(strings.ReplaceAll(text, " ", ""))
	if err != nil {
		t.Fatal(err)
	}
	return b
}

// rising tells n bytes 00 01 02 and so on.
func rising(n int) []byte {
	b := make([]byte, n)
	for i := range b {
		b[i] = byte(i)
	}
	return b
}

// someBytes tells n bytes that a seed fixes.
func someBytes(r *rand.Rand, n int) []byte {
	b := make([]byte, n)
	r.Read(b)
	return b
}

// someNonce tells twelve of them.
func someNonce(r *rand.Rand) [12]byte { return [12]byte(someBytes(r, 12)) }

// turned tells b with one bit turned.
func turned(b []byte, bit int) []byte {
	b = bytes.Clone(b)
	b[bit/8] ^= 1 << (bit % 8)
	return b
}

// boxOf makes a box that must come to be.
func boxOf(t testing.TB, key []byte) *Box {
	t.Helper()
	x, e := New(key)
	if e != api.OK || x == nil {
		t.Fatalf("New of %d bytes: %v, %d", len(key), x, e)
	}
	return x
}

// libraryOf makes the same out of the library.
func libraryOf(t testing.TB, key []byte) cipher.AEAD {
	t.Helper()
	block, err := libraryaes.NewCipher(key)
	if err != nil {
		t.Fatal(err)
	}
	library, err := cipher.NewGCM(block)
	if err != nil {
		t.Fatal(err)
	}
	return library
}

// sealByTheBook goes the chapter's words one by one.
func sealByTheBook(t testing.TB, key []byte, nonce [12]byte, aad, plain []byte) []byte {
	t.Helper()
	c, e := aes.New(key)
	if e != api.OK {
		t.Fatal(e)
	}
	count := func(n int) []byte {
		state := append(nonce[:], byte(n>>24), byte(n>>16), byte(n>>8), byte(n))
		out := c.Encrypt([16]byte(state))
		return out[:]
	}
	var stream []byte
	for n := 2; len(stream) < len(plain); n++ {
		stream = append(stream, count(n)...)
	}
	sealed := bytes.Clone(plain)
	for i := range sealed {
		sealed[i] ^= stream[i]
	}
	tag := ghash.New(c.Encrypt([16]byte{})).Sum(aad, sealed)
	for i, b := range count(1) {
		tag[i] ^= b
	}
	return append(sealed, tag[:]...)
}

// opens holds that sealed opens to plain.
func opens(t testing.TB, x *Box, nonce [12]byte, aad, sealed, plain []byte) {
	t.Helper()
	p, e := x.Open(nonce, aad, sealed)
	if e != api.OK || !bytes.Equal(p, plain) {
		t.Fatalf("%x, with %x along: %x, %d, not %x", sealed, aad, p, e, plain)
	}
}

// refused holds that sealed doesn't open, with this error, and that nothing is
// told beside it.
func refused(t testing.TB, x *Box, nonce [12]byte, aad, sealed []byte, want api.Errno) {
	t.Helper()
	if p, e := x.Open(nonce, aad, sealed); e != want || len(p) != 0 {
		t.Fatalf("%x, with %x along: %x, %d, not %d", sealed, aad, p, e, want)
	}
}

// P8.1, P8.2: both examples of the chapter, and others that are known.
func TestKnown(t *testing.T) {
	narrow := "feffe9928665731c6d6a8f9467308308"
	text := "d9313225f88406e5a55909c5aff5269a86a7a9531534f7da2e4c303d8a318a721c3c0c95956809532fcf0e2449a6b525b16aedf5aa0de657ba637b391aafd255"
	along := "feedfacedeadbeeffeedfacedeadbeefabaddad2"
	for _, c := range []struct{ name, key, nonce, aad, plain, sealed string }{
		{"the first example", strings.Repeat("00", 16), strings.Repeat("00", 12), "", strings.Repeat("00", 16),
			"0388dace 60b6a392 f328c2b9 71b2fe78 ab6e47d4 2cec13bd f53a67b2 1257bddf"},
		{"the second example", strings.Repeat("00", 16), strings.Repeat("00", 12), "", "",
			"58e2fcce fa7e3061 367f1d57 a4e7455a"},
		{"four blocks", narrow, "cafebabefacedbaddecaf888", "", text,
			"42831ec2217774244b7221b784d0d49ce3aa212f2c02a4e035c17e2329aca12e21d514b25466931c7d8f6a5aac84aa051ba30b396a0aac973d58e091473f5985" +
				"4d5c2af327cd64a62cf35abd2ba6fab4"},
		{"less than four blocks, and bytes along", narrow, "cafebabefacedbaddecaf888", along, text[:120],
			"42831ec2217774244b7221b784d0d49ce3aa212f2c02a4e035c17e2329aca12e21d514b25466931c7d8f6a5aac84aa051ba30b396a0aac973d58e091" +
				"5bc94fbc3221a5db94fae95ae7121a47"},
		{"no text, wide", strings.Repeat("00", 32), strings.Repeat("00", 12), "", "",
			"530f8afbc74536b9a963b4f1c4cb738b"},
		{"one block, wide", strings.Repeat("00", 32), strings.Repeat("00", 12), "", strings.Repeat("00", 16),
			"cea7403d4d606b6e074ec5d3baf39d18 d0d1c8a799996bf0265b98b5d48ab919"},
		{"four blocks, wide", narrow + narrow, "cafebabefacedbaddecaf888", "", text,
			"522dc1f099567d07f47f37a32a84427d643a8cdcbfe5c0c97598a2bd2555d1aa8cb08e48590dbb3da7b08b1056828838c5f61e6393ba7a0abcc9f662898015ad" +
				"b094dac5d93471bdec1a502270e3cc6c"},
		{"less than four blocks, and bytes along, wide", narrow + narrow, "cafebabefacedbaddecaf888", along, text[:120],
			"522dc1f099567d07f47f37a32a84427d643a8cdcbfe5c0c97598a2bd2555d1aa8cb08e48590dbb3da7b08b1056828838c5f61e6393ba7a0abcc9f662" +
				"76fc6ece0f4e1768cddf8853bb2d551b"},
	} {
		x := boxOf(t, unhex(t, c.key))
		nonce, aad, plain, want := [12]byte(unhex(t, c.nonce)), unhex(t, c.aad), unhex(t, c.plain), unhex(t, c.sealed)
		if sealed := x.Seal(nonce, aad, plain); !bytes.Equal(sealed, want) {
			t.Errorf("%s: %x, not %x", c.name, sealed, want)
		}
		opens(t, x, nonce, aad, want, plain)
	}
}

// P8.1: keys have 16 or 32 bytes, and no others; no room behind them counts.
func TestKeyLengths(t *testing.T) {
	for n := range 300 {
		for _, key := range [][]byte{rising(n), make([]byte, n, n+32), rising(n + 32)[:n]} {
			x, e := New(key)
			if n == 16 || n == 32 {
				if e != api.OK || x == nil {
					t.Fatalf("%d bytes: %v, %d", n, x, e)
				}
			} else if e != api.ErrArg || x != nil {
				t.Fatalf("%d bytes: %v, %d", n, x, e)
			}
		}
	}
	for _, key := range [][]byte{nil, {}, make([]byte, 0, 16), rising(32)[:0], make([]byte, 1<<20)} {
		if x, e := New(key); e != api.ErrArg || x != nil {
			t.Fatalf("%d bytes: %v, %d", len(key), x, e)
		}
	}
}

// P8.1, P8.2: all lengths of both up to some blocks, by the chapter's words and
// by the library, and led back.
func TestLengths(t *testing.T) {
	r := rand.New(rand.NewSource(81))
	for _, size := range []int{16, 32} {
		key, nonce := someBytes(r, size), someNonce(r)
		x, library := boxOf(t, key), libraryOf(t, key)
		aad, plain := someBytes(r, 35), someBytes(r, 70)
		for n := range len(aad) + 1 {
			for m := range len(plain) + 1 {
				sealed := x.Seal(nonce, aad[:n], plain[:m])
				if len(sealed) != m+16 {
					t.Fatalf("%d bytes became %d", m, len(sealed))
				}
				if want := library.Seal(nil, nonce[:], plain[:m], aad[:n]); !bytes.Equal(sealed, want) {
					t.Fatalf("%d bytes along, %d of text: %x, not %x", n, m, sealed, want)
				}
				if want := sealByTheBook(t, key, nonce, aad[:n], plain[:m]); !bytes.Equal(sealed, want) {
					t.Fatalf("%d bytes along, %d of text: %x, not %x", n, m, sealed, want)
				}
				opens(t, x, nonce, aad[:n], sealed, plain[:m])
			}
		}
	}
}

// P8.1, P8.2: many keys, nonces, and longer bytes; what the library sealed
// opens too.
func TestAgainstLibrary(t *testing.T) {
	r := rand.New(rand.NewSource(82))
	for i := range 200 {
		key, nonce := someBytes(r, 16+16*(i%2)), someNonce(r)
		x, library := boxOf(t, key), libraryOf(t, key)
		aad, plain := someBytes(r, r.Intn(300)), someBytes(r, r.Intn(600))
		want := library.Seal(nil, nonce[:], plain, aad)
		if sealed := x.Seal(nonce, aad, plain); !bytes.Equal(sealed, want) {
			t.Fatalf("%d bytes along, %d of text: %x, not %x", len(aad), len(plain), sealed, want)
		}
		opens(t, x, nonce, aad, want, plain)
	}
}

// P8.1: numbers of counters that need more than one byte, and more than two;
// they leave the nonce alone, be it of bytes ff.
func TestLongTexts(t *testing.T) {
	r := rand.New(rand.NewSource(83))
	nonces := [][12]byte{{}, [12]byte(bytes.Repeat([]byte{0xff}, 12)), someNonce(r)}
	long := someBytes(r, 16*65536+5)
	for _, size := range []int{16, 32} {
		key := someBytes(r, size)
		x, library := boxOf(t, key), libraryOf(t, key)
		for i, n := range []int{16*253 + 1, 16 * 254, 16*254 + 1, 16*255 + 1, 16*65533 + 1, len(long)} {
			nonce := nonces[i%len(nonces)]
			want := library.Seal(nil, nonce[:], long[:n], nil)
			if !bytes.Equal(x.Seal(nonce, nil, long[:n]), want) {
				t.Fatalf("%d bytes", n)
			}
			p, e := x.Open(nonce, nil, want)
			if e != api.OK || !bytes.Equal(p, long[:n]) {
				t.Fatalf("%d bytes: %d", n, e)
			}
		}
	}
}

// P8.1: a counter is the nonce, and its number in four bytes, the highest
// first: also numbers that no text here is long enough for.
func TestCounters(t *testing.T) {
	nonce := [12]byte(rising(12))
	for n, want := range map[uint32]string{
		0:          "00000000",
		1:          "00000001",
		2:          "00000002",
		255:        "000000ff",
		256:        "00000100",
		0xffff:     "0000ffff",
		0x10000:    "00010000",
		0xffffff:   "00ffffff",
		0x1000000:  "01000000",
		0x12345678: "12345678",
		0x80000000: "80000000",
		0xffffffff: "ffffffff",
	} {
		if c := counterOf(nonce, n); !bytes.Equal(c[:], append(rising(12), unhex(t, want)...)) {
			t.Errorf("%d: %x", n, c)
		}
	}
}

// P8.1: what masks the tag is c1, and the stream begins with c2: of bytes 00
// the stream itself is seen.
func TestStream(t *testing.T) {
	for _, size := range []int{16, 32} {
		key, nonce := rising(size), [12]byte(rising(12))
		x := boxOf(t, key)
		c, _ := aes.New(key)
		sealed := x.Seal(nonce, nil, make([]byte, 50))
		for i := range 4 {
			block := c.Encrypt([16]byte(append(rising(12), 0, 0, 0, byte(2+i))))
			n := min(16, 50-16*i)
			if !bytes.Equal(sealed[16*i:16*i+n], block[:n]) {
				t.Errorf("block %d of the stream: %x, not %x", i, sealed[16*i:16*i+n], block[:n])
			}
		}
		first := c.Encrypt([16]byte(append(rising(12), 0, 0, 0, 1)))
		if tag := x.Seal(nonce, nil, nil); !bytes.Equal(tag, first[:]) { // the sum of nothing is 0
			t.Errorf("the tag of nothing: %x, not %x", tag, first)
		}
	}
}

// P8.1: nil and no bytes are the same, along and as text.
func TestNoBytes(t *testing.T) {
	x, nonce := boxOf(t, rising(16)), [12]byte{1}
	nothings := [][]byte{nil, {}, make([]byte, 0, 32), rising(32)[:0]}
	want := x.Seal(nonce, nil, nil)
	withText := x.Seal(nonce, nil, rising(20))
	if len(want) != 16 || len(withText) != 36 {
		t.Fatalf("%x, %x", want, withText)
	}
	for _, aad := range nothings {
		for _, plain := range nothings {
			if sealed := x.Seal(nonce, aad, plain); !bytes.Equal(sealed, want) {
				t.Fatalf("%x, not %x", sealed, want)
			}
		}
		if sealed := x.Seal(nonce, aad, rising(20)); !bytes.Equal(sealed, withText) {
			t.Fatalf("%x, not %x", sealed, withText)
		}
		opens(t, x, nonce, aad, want, nil)
		opens(t, x, nonce, aad, withText, rising(20))
	}
}

// P8.2: fewer than sixteen bytes are short, whatever they are; so is what was
// sealed, cut.
func TestShort(t *testing.T) {
	for _, size := range []int{16, 32} {
		x := boxOf(t, rising(size))
		whole := x.Seal([12]byte{}, nil, rising(40))
		tag := x.Seal([12]byte{}, nil, nil)
		refused(t, x, [12]byte{}, nil, nil, api.ErrShort)
		for n := range 16 {
			for _, b := range [][]byte{whole[:n], tag[:n], tag[16-n:], make([]byte, n, 100), rising(n)} {
				refused(t, x, [12]byte{}, nil, b, api.ErrShort)
				refused(t, x, [12]byte{9}, rising(20), b, api.ErrShort)
			}
		}
	}
}

// P8.2: sixteen bytes are the tag of no text, or they are refused.
func TestSixteen(t *testing.T) {
	r := rand.New(rand.NewSource(84))
	for _, size := range []int{16, 32} {
		x, nonce := boxOf(t, someBytes(r, size)), someNonce(r)
		for _, aad := range [][]byte{nil, {0}, rising(16), rising(33)} {
			tag := x.Seal(nonce, aad, nil)
			if len(tag) != 16 {
				t.Fatalf("%x", tag)
			}
			opens(t, x, nonce, aad, tag, nil)
			refused(t, x, nonce, aad, make([]byte, 16), api.ErrCorrupt)
			refused(t, x, nonce, aad, someBytes(r, 16), api.ErrCorrupt)
			refused(t, x, nonce, append(bytes.Clone(aad), 0), tag, api.ErrCorrupt)
			refused(t, x, nonce, aad, x.Seal(nonce, aad, rising(16))[16:], api.ErrCorrupt)
			refused(t, x, nonce, aad, x.Seal(nonce, aad, rising(16))[:16], api.ErrCorrupt)
		}
	}
}

// P8.2: any bit of the text, of the tag, of the nonce or of what goes along
// turned is found out.
func TestEveryBit(t *testing.T) {
	r := rand.New(rand.NewSource(85))
	for _, size := range []int{16, 32} {
		for _, n := range []int{0, 1, 16, 33} {
			key, nonce, aad, plain := someBytes(r, size), someNonce(r), someBytes(r, n), someBytes(r, n)
			x := boxOf(t, key)
			sealed := x.Seal(nonce, aad, plain)
			for bit := range 8 * len(sealed) {
				refused(t, x, nonce, aad, turned(sealed, bit), api.ErrCorrupt)
			}
			for bit := range 8 * len(nonce) {
				refused(t, x, [12]byte(turned(nonce[:], bit)), aad, sealed, api.ErrCorrupt)
			}
			for bit := range 8 * len(aad) {
				refused(t, x, nonce, turned(aad, bit), sealed, api.ErrCorrupt)
			}
			for bit := range 8 * len(key) {
				refused(t, boxOf(t, turned(key, bit)), nonce, aad, sealed, api.ErrCorrupt)
			}
			opens(t, x, nonce, aad, sealed, plain)
		}
	}
}

// P8.2: every value of every byte of a tag but the right one; and bytes of it
// turned alike, two by two, or changed with each other.
func TestTags(t *testing.T) {
	x, nonce, aad := boxOf(t, rising(16)), [12]byte{3}, []byte("along")
	sealed := x.Seal(nonce, aad, []byte("a text"))
	for i := len(sealed) - 16; i < len(sealed); i++ {
		for v := 1; v < 256; v++ {
			other := bytes.Clone(sealed)
			other[i] ^= byte(v)
			refused(t, x, nonce, aad, other, api.ErrCorrupt)
		}
		for j := i + 1; j < len(sealed); j++ {
			other := bytes.Clone(sealed)
			other[i] ^= 0x55
			other[j] ^= 0x55
			refused(t, x, nonce, aad, other, api.ErrCorrupt)
			other = bytes.Clone(sealed)
			other[i], other[j] = other[j], other[i]
			if other[i] != other[j] {
				refused(t, x, nonce, aad, other, api.ErrCorrupt)
			}
		}
	}
	opens(t, x, nonce, aad, sealed, []byte("a text"))
}

// P8.2: bytes taken away, put to it, or put at another place are found out;
// also where aad ends and the text begins.
func TestOtherLengths(t *testing.T) {
	x, nonce, aad := boxOf(t, rising(32)), [12]byte{7}, rising(20)
	sealed := x.Seal(nonce, aad, rising(40))
	for n := 1; n <= 40; n++ {
		refused(t, x, nonce, aad, sealed[n:], api.ErrCorrupt)
		refused(t, x, nonce, aad, sealed[:len(sealed)-n], api.ErrCorrupt)
		refused(t, x, nonce, aad, append(bytes.Clone(sealed), make([]byte, n)...), api.ErrCorrupt)
		refused(t, x, nonce, aad, append(make([]byte, n), sealed...), api.ErrCorrupt)
		refused(t, x, nonce, aad, append(append(bytes.Clone(sealed[:40]), make([]byte, n)...), sealed[40:]...), api.ErrCorrupt)
	}
	for n := range 20 {
		refused(t, x, nonce, aad[:n], sealed, api.ErrCorrupt)
		refused(t, x, nonce, aad[n+1:], sealed, api.ErrCorrupt)
		refused(t, x, nonce, append(bytes.Clone(aad), make([]byte, n+1)...), sealed, api.ErrCorrupt)
		refused(t, x, nonce, append(bytes.Clone(aad), sealed[:n+1]...), sealed[n+1:], api.ErrCorrupt)
		refused(t, x, nonce, aad[:n], append(bytes.Clone(aad[n:]), sealed...), api.ErrCorrupt)
	}
	refused(t, x, nonce, nil, sealed, api.ErrCorrupt)
	opens(t, x, nonce, aad, sealed, rising(40))
}

// P8.2: bytes that were never sealed are refused, and nothing is told of them.
func TestNeverSealed(t *testing.T) {
	r := rand.New(rand.NewSource(86))
	x := boxOf(t, someBytes(r, 16))
	for n := 16; n < 300; n++ {
		refused(t, x, someNonce(r), someBytes(r, r.Intn(40)), someBytes(r, n), api.ErrCorrupt)
		refused(t, x, [12]byte{}, nil, make([]byte, n), api.ErrCorrupt)
	}
}

// P8.2: under another key nothing opens, be it as long or not, or the beginning
// of the other one.
func TestOtherKeys(t *testing.T) {
	keys := [][]byte{make([]byte, 16), make([]byte, 32), rising(16), rising(32), bytes.Repeat([]byte{0xff}, 16), bytes.Repeat([]byte{0xff}, 32)}
	for i, key := range keys {
		for _, plain := range [][]byte{nil, {1}, rising(16), rising(50)} {
			sealed := boxOf(t, key).Seal([12]byte{}, rising(5), plain)
			for j, other := range keys {
				if i == j {
					opens(t, boxOf(t, other), [12]byte{}, rising(5), sealed, plain)
				} else {
					refused(t, boxOf(t, other), [12]byte{}, rising(5), sealed, api.ErrCorrupt)
				}
			}
		}
	}
}

// P8.1, P8.2: nonces make texts differ that are the same.
func TestNonces(t *testing.T) {
	x, plain := boxOf(t, rising(16)), make([]byte, 16)
	seen := map[string]int{}
	for bit := range 96 {
		nonce := [12]byte(turned(make([]byte, 12), bit))
		sealed := x.Seal(nonce, nil, plain)
		if !bytes.Equal(sealed, sealByTheBook(t, rising(16), nonce, nil, plain)) {
			t.Fatalf("%x: %x", nonce, sealed)
		}
		seen[string(sealed[:16])]++
		seen[string(sealed[16:])]++
	}
	if len(seen) != 2*96 {
		t.Fatalf("%d texts and tags of %d", len(seen), 2*96)
	}
}

// P8.2, R1: of no box: nothing, and ErrNone ahead of all other errors. One that
// New didn't make is none.
func TestNoBox(t *testing.T) {
	var none *Box
	sealed := boxOf(t, make([]byte, 16)).Seal([12]byte{}, nil, rising(20))
	for _, x := range []*Box{none, {}} {
		for _, b := range [][]byte{nil, {}, {1}, rising(15), rising(16), make([]byte, 16), make([]byte, 40), sealed} {
			for _, aad := range [][]byte{nil, {}, rising(20)} {
				if s := x.Seal([12]byte{}, aad, b); len(s) != 0 {
					t.Errorf("%x became %x", b, s)
				}
				refused(t, x, [12]byte{}, aad, b, api.ErrNone)
				refused(t, x, [12]byte{1, 2}, aad, b, api.ErrNone)
			}
		}
	}
}

// R4: what is handed in stays as it was, and the room behind it is neither read
// nor changed.
func TestBytesAreLeftAlone(t *testing.T) {
	for _, size := range []int{16, 32} {
		key := append(rising(size), bytes.Repeat([]byte{0xcc}, 40)...)
		wasKey := bytes.Clone(key)
		x := boxOf(t, key[:size])
		nonce := [12]byte(rising(12))
		for n := range 50 {
			aad := append(rising(n), bytes.Repeat([]byte{0xaa}, 40)...)
			plain := append(rising(n), bytes.Repeat([]byte{0xbb}, 40)...)
			wasAad, wasPlain := bytes.Clone(aad), bytes.Clone(plain)
			sealed := x.Seal(nonce, aad[:n], plain[:n])
			if !bytes.Equal(aad, wasAad) || !bytes.Equal(plain, wasPlain) {
				t.Fatalf("%d bytes became %x, %x", n, aad, plain)
			}
			if !bytes.Equal(sealed, sealByTheBook(t, rising(size), nonce, rising(n), rising(n))) {
				t.Fatalf("%d bytes: the room behind them was read", n)
			}
			roomy := append(bytes.Clone(sealed), bytes.Repeat([]byte{0xdd}, 40)...)
			wasRoomy := bytes.Clone(roomy)
			opens(t, x, nonce, aad[:n], roomy[:n+16], rising(n))
			roomy[0] ^= 1
			refused(t, x, nonce, aad[:n], roomy[:n+16], api.ErrCorrupt)
			roomy[0] ^= 1
			refused(t, x, nonce, aad[:n], roomy[:n%16], api.ErrShort)
			if !bytes.Equal(aad, wasAad) || !bytes.Equal(roomy, wasRoomy) {
				t.Fatalf("%d bytes became %x, %x", n, aad, roomy)
			}
		}
		if nonce != [12]byte(rising(12)) || !bytes.Equal(key, wasKey) {
			t.Fatalf("nonce %x, key %x", nonce, key)
		}
	}
}

// R4: a box hangs neither on the key's bytes, nor on those that it sealed or
// opened.
func TestBytesAreNotKept(t *testing.T) {
	for _, size := range []int{16, 32} {
		key, nonce, aad, plain := rising(size), [12]byte{1}, rising(20), rising(50)
		x := boxOf(t, key)
		want := sealByTheBook(t, rising(size), nonce, aad, plain)
		clear(key)
		sealed := x.Seal(nonce, aad, plain)
		if !bytes.Equal(sealed, want) {
			t.Fatal("the box hangs on the key's bytes")
		}
		opened, e := x.Open(nonce, aad, sealed)
		if e != api.OK {
			t.Fatal(e)
		}
		clear(nonce[:])
		clear(aad)
		clear(plain)
		if !bytes.Equal(sealed, want) || !bytes.Equal(opened, rising(50)) {
			t.Fatal("what was handed back is shared with what was handed in")
		}
		clear(sealed)
		if !bytes.Equal(opened, rising(50)) {
			t.Fatal("what was opened is shared with what was sealed")
		}
		if !bytes.Equal(x.Seal([12]byte{1}, rising(20), rising(50)), want) {
			t.Fatal("the box hangs on bytes that it sealed")
		}
		opens(t, x, [12]byte{1}, rising(20), want, rising(50))
	}
}

// R4: what is handed back is new memory: who writes into it, or behind it,
// changes neither what was handed in nor what else was handed back.
func TestAnswersAreNew(t *testing.T) {
	x, nonce := boxOf(t, rising(16)), [12]byte{}
	for _, n := range []int{0, 1, 16, 40} {
		aad, plain := rising(n), rising(n)
		want := sealByTheBook(t, rising(16), nonce, rising(n), rising(n))
		first, second := x.Seal(nonce, aad, plain), x.Seal(nonce, aad, plain)
		for i := range first {
			first[i] ^= 0xff
		}
		_ = append(first, rising(100)...)
		clear(first[:cap(first)])
		if !bytes.Equal(second, want) || !bytes.Equal(aad, rising(n)) || !bytes.Equal(plain, rising(n)) {
			t.Fatalf("%d bytes: what was sealed is shared", n)
		}
		sealed := bytes.Clone(want)
		one, _ := x.Open(nonce, aad, sealed)
		other, _ := x.Open(nonce, aad, sealed)
		for i := range one {
			one[i] ^= 0xff
		}
		_ = append(one, bytes.Repeat([]byte{0xee}, 16)...)
		clear(one[:cap(one)])
		if !bytes.Equal(other, rising(n)) || !bytes.Equal(sealed, want) || !bytes.Equal(aad, rising(n)) {
			t.Fatalf("%d bytes: what was opened is shared", n)
		}
		opens(t, x, nonce, aad, want, rising(n))
	}
}

// R4: the arguments may be pieces of the same bytes, those of the key too.
func TestSharedBytes(t *testing.T) {
	b := rising(80)
	x := boxOf(t, b[:16])
	nonce := [12]byte(b[5:])
	for _, c := range [][2][]byte{{b, b}, {b[:20], b[20:]}, {b[:40], b[10:]}, {b[30:], b[:33]}} {
		sealed := x.Seal(nonce, c[0], c[1])
		if !bytes.Equal(sealed, sealByTheBook(t, rising(16), nonce, bytes.Clone(c[0]), bytes.Clone(c[1]))) {
			t.Errorf("%x, %x: %x", c[0], c[1], sealed)
		}
		opens(t, x, nonce, c[0], sealed, c[1])
	}
	own := x.Seal(nonce, nil, nil)
	sealed := x.Seal(nonce, own, own)
	opens(t, x, nonce, own, sealed, own)
	refused(t, x, nonce, sealed, sealed, api.ErrCorrupt)
	if !bytes.Equal(b, rising(80)) {
		t.Errorf("the bytes became %x", b)
	}
}

// R5, R6: a box doesn't hang on what it sealed, opened or refused so far: a
// nonce may come again, and tells the same.
func TestCallsApart(t *testing.T) {
	r := rand.New(rand.NewSource(87))
	key, nonce, aad, plain := rising(32), [12]byte{4}, rising(5), rising(40)
	x := boxOf(t, key)
	want := sealByTheBook(t, key, nonce, aad, plain)
	for range 50 {
		if sealed := x.Seal(nonce, aad, plain); !bytes.Equal(sealed, want) {
			t.Fatalf("%x, not %x", sealed, want)
		}
		opens(t, x, nonce, aad, want, plain)
		x.Seal(someNonce(r), someBytes(r, r.Intn(50)), someBytes(r, r.Intn(50)))
		refused(t, x, nonce, aad, someBytes(r, 16+r.Intn(50)), api.ErrCorrupt)
		refused(t, x, nonce, aad, someBytes(r, r.Intn(16)), api.ErrShort)
	}
}

// R4: two boxes don't hang on each other, be they of the same key or not.
func TestBoxesApart(t *testing.T) {
	key, otherKey := rising(16), rising(32)
	first, same, other := boxOf(t, key), boxOf(t, key), boxOf(t, otherKey)
	if first == same {
		t.Fatal("New made the same box twice")
	}
	check := func(x *Box, key []byte) {
		t.Helper()
		want := sealByTheBook(t, key, [12]byte{}, rising(3), rising(20))
		if !bytes.Equal(x.Seal([12]byte{}, rising(3), rising(20)), want) {
			t.Fatalf("the box of %x", key)
		}
		opens(t, x, [12]byte{}, rising(3), want, rising(20))
	}
	for range 3 {
		check(first, key)
		check(other, otherKey)
		check(same, key)
	}
	*first = Box{}
	check(same, key)
	check(other, otherKey)
	check(boxOf(t, key), key)
}

// FuzzSeal holds what any arguments are sealed to against the chapter's words
// and the library, and leads it back.
func FuzzSeal(f *testing.F) {
	f.Add([]byte(nil), []byte(nil), []byte(nil), []byte(nil))
	f.Add(rising(16), rising(12), rising(20), rising(17))
	f.Add(rising(32), []byte{1}, []byte{}, rising(64))
	f.Add(rising(24), rising(13), rising(1), rising(0))
	f.Fuzz(func(t *testing.T, key, number, aad, plain []byte) {
		x, e := New(key)
		if len(key) != 16 && len(key) != 32 {
			if e != api.ErrArg || x != nil {
				t.Fatalf("a key of %d bytes: %v, %d", len(key), x, e)
			}
			x, key = boxOf(t, make([]byte, 16)), make([]byte, 16)
		}
		var nonce [12]byte
		copy(nonce[:], number)
		wasAad, wasPlain := bytes.Clone(aad), bytes.Clone(plain)
		sealed := x.Seal(nonce, aad, plain)
		if !bytes.Equal(sealed, sealByTheBook(t, key, nonce, aad, plain)) || !bytes.Equal(sealed, libraryOf(t, key).Seal(nil, nonce[:], plain, aad)) {
			t.Fatalf("%x: %x", plain, sealed)
		}
		opens(t, x, nonce, aad, sealed, plain)
		if !bytes.Equal(aad, wasAad) || !bytes.Equal(plain, wasPlain) {
			t.Fatal("the bytes were changed")
		}
	})
}

// FuzzOpen holds what any bytes open to against the library.
func FuzzOpen(f *testing.F) {
	f.Add([]byte(nil), []byte(nil), []byte(nil))
	f.Add([]byte{}, []byte{}, unhex(f, "0388dace60b6a392f328c2b971b2fe78ab6e47d42cec13bdf53a67b21257bddf"))
	f.Add([]byte{}, []byte{}, unhex(f, "58e2fccefa7e3061367f1d57a4e7455a"))
	f.Add(rising(12), rising(5), rising(15))
	f.Add(rising(12), rising(5), rising(50))
	f.Fuzz(func(t *testing.T, number, aad, sealed []byte) {
		var nonce [12]byte
		copy(nonce[:], number)
		key := make([]byte, 16)
		want, err := libraryOf(t, key).Open(nil, nonce[:], sealed, aad)
		switch x := boxOf(t, key); {
		case len(sealed) < 16:
			refused(t, x, nonce, aad, sealed, api.ErrShort)
		case err != nil:
			refused(t, x, nonce, aad, sealed, api.ErrCorrupt)
		default:
			opens(t, x, nonce, aad, sealed, want)
		}
	})
}

func BenchmarkNew(b *testing.B) {
	key := rising(32)
	for b.Loop() {
		New(key)
	}
}

func BenchmarkSeal(b *testing.B) {
	x := boxOf(b, rising(16))
	page := rising(api.Page)
	for b.Loop() {
		x.Seal([12]byte{}, page[:4], page)
	}
}

func BenchmarkOpen(b *testing.B) {
	x := boxOf(b, rising(16))
	sealed := x.Seal([12]byte{}, nil, rising(api.Page))
	for b.Loop() {
		x.Open([12]byte{}, nil, sealed)
	}
}
