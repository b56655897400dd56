package ghash

import (
	"bytes"
	"crypto/aes"
	"crypto/cipher"
	"encoding/hex"
	"math/big"
	"math/rand"
	"strings"
	"testing"
)

// unhex tells the bytes of a text in base 16; spaces in it count nothing.
func unhex(t testing.TB, text string) []byte {
	t.Helper()
	b, err := hex.DecodeString(strings.ReplaceAll(text, " ", ""))
	if err != nil {
		t.Fatal(err)
	}
	return b
}

// rising tells n bytes 00 01 02 and so on.
func rising(n int) []byte {
	b := make([]byte, n)
	for i := range b {
		b[i] = byte(i)
	}
	return b
}

// someBytes tells n bytes that a seed fixes.
func someBytes(r *rand.Rand, n int) []byte {
	b := make([]byte, n)
	r.Read(b)
	return b
}

// someBlock tells sixteen of them.
func someBlock(r *rand.Rand) [16]byte { return [16]byte(someBytes(r, 16)) }

// one is the element 1, full the one with all coefficients.
var (
	one  = [16]byte{0x80}
	full = [16]byte(bytes.Repeat([]byte{0xff}, 16))
)

// power tells x^i, for i below 128.
func power(i int) [16]byte {
	var b [16]byte
	b[i/8] = 0x80 >> (i % 8)
	return b
}

// plus tells the sum of elements.
func plus(a, b [16]byte) [16]byte {
	for i := range a {
		a[i] ^= b[i]
	}
	return a
}

// polynomial tells the chapter's polynomial of sixteen bytes, as a number whose
// bit i is the coefficient of x^i.
func polynomial(b [16]byte) *big.Int {
	p := new(big.Int)
	for i := range 128 {
		p.SetBit(p, i, uint(b[i/8]>>(7-i%8)&1))
	}
	return p
}

// timesByTheBook multiplies polynomials, and takes away multiples of x^128 +
// x^7 + x^2 + x + 1 as long as the product has x^128 or more.
func timesByTheBook(a, b [16]byte) [16]byte {
	p, q, product := polynomial(a), polynomial(b), new(big.Int)
	for i := range 128 {
		if q.Bit(i) == 1 {
			product.Xor(product, new(big.Int).Lsh(p, uint(i)))
		}
	}
	modulus := new(big.Int)
	for _, i := range []int{128, 7, 2, 1, 0} {
		modulus.SetBit(modulus, i, 1)
	}
	for product.BitLen() > 128 {
		product.Xor(product, new(big.Int).Lsh(modulus, uint(product.BitLen()-129)))
	}
	var out [16]byte
	for i := range 128 {
		out[i/8] |= byte(product.Bit(i)) << (7 - i%8)
	}
	return out
}

// filled tells bytes filled up with 00 to whole blocks.
func filled(b []byte) []byte {
	return append(bytes.Clone(b), make([]byte, (16-len(b)%16)%16)...)
}

// sumByTheBook goes the chapter's steps one by one.
func sumByTheBook(h [16]byte, aad, text []byte) [16]byte {
	all := append(filled(aad), filled(text)...)
	for _, n := range []int{8 * len(aad), 8 * len(text)} {
		for shift := 56; shift >= 0; shift -= 8 {
			all = append(all, byte(n>>shift))
		}
	}
	var y [16]byte
	for len(all) > 0 {
		y = timesByTheBook(plus(y, [16]byte(all)), h)
		all = all[16:]
	}
	return y
}

// libraryKey is a key of the library's sealing, and what it leads to here: the
// sixteen bytes 00 encrypted, and what tags are masked by.
type libraryKey struct {
	sealer  cipher.AEAD
	h, mask [16]byte
}

func libraryKeyOf(t testing.TB, key []byte) libraryKey {
	t.Helper()
	block, err := aes.NewCipher(key)
	if err != nil {
		t.Fatal(err)
	}
	sealer, err := cipher.NewGCM(block)
	if err != nil {
		t.Fatal(err)
	}
	k := libraryKey{sealer: sealer}
	block.Encrypt(k.h[:], make([]byte, 16))
	first := [16]byte{15: 1}
	block.Encrypt(k.mask[:], first[:])
	return k
}

// sum tells what the library sums over aad and what it makes of plain, and that.
func (k libraryKey) sum(aad, plain []byte) (sum [16]byte, text []byte) {
	sealed := k.sealer.Seal(nil, make([]byte, 12), plain, aad)
	text = sealed[:len(plain)]
	return plus([16]byte(sealed[len(plain):]), k.mask), text
}

// P7.1, P7.2: both examples of the chapter, and others that are known.
func TestKnown(t *testing.T) {
	b := [16]byte(unhex(t, "0388dace60b6a392f328c2b971b2fe78"))
	h := [16]byte(unhex(t, "66e94bd4 ef8a2c3b 884cfa59 ca342b2e"))
	if x := Times(one, b); x != b {
		t.Errorf("1 times %x: %x", b, x)
	}
	if x := Times(b, h); x != [16]byte(unhex(t, "5e2ec746917062882c85b0685353deb7")) {
		t.Errorf("%x times %x: %x", b, h, x)
	}
	if x := New(h).Sum(nil, b[:]); x != [16]byte(unhex(t, "f38cbb1a d69223dc c3457ae5 b6b0f885")) {
		t.Errorf("the sum over %x: %x", b, x)
	}
	wide := [16]byte(unhex(t, "b83b533708bf535d0aa6e52980d53b78"))
	aad := unhex(t, "feedfacedeadbeeffeedfacedeadbeefabaddad2")
	text := unhex(t, "42831ec2217774244b7221b784d0d49ce3aa212f2c02a4e035c17e2329aca12e21d514b25466931c7d8f6a5aac84aa051ba30b396a0aac973d58e091")
	if x := New(wide).Sum(aad, text); x != [16]byte(unhex(t, "698e57f70e6ecc7fd9463b7260a9ae5f")) {
		t.Errorf("the sum over %x and %x: %x", aad, text, x)
	}
}

// P7.1: 1 leaves what it meets, 0 leaves nothing of it, from either side.
func TestOneAndNought(t *testing.T) {
	r := rand.New(rand.NewSource(71))
	var nought [16]byte
	elements := [][16]byte{nought, one, full, power(1), power(127), [16]byte(rising(16))}
	for i := range 128 {
		elements = append(elements, power(i))
	}
	for range 200 {
		elements = append(elements, someBlock(r))
	}
	for _, b := range elements {
		if Times(one, b) != b || Times(b, one) != b {
			t.Errorf("%x times 1: %x, %x", b, Times(one, b), Times(b, one))
		}
		if Times(nought, b) != nought || Times(b, nought) != nought {
			t.Errorf("%x times 0: %x, %x", b, Times(nought, b), Times(b, nought))
		}
	}
}

// P7.1: the powers that reach x^128 or more, worked out by hand.
func TestOverTheEnd(t *testing.T) {
	last := power(127)
	for _, c := range []struct {
		name       string
		a, b, want [16]byte
	}{
		{"x^126 x", power(126), power(1), last},
		{"x^127 x", last, power(1), [16]byte{0xe1}},
		{"x^127 x^2", last, power(2), [16]byte{0x70, 0x80}},
		{"x^64 x^64", power(64), power(64), [16]byte{0xe1}},
		{"x^127 x^121", last, power(121), [16]byte{15: 0xe1}},
		{"x^127 x^122", last, power(122), [16]byte{0xe1, 15: 0x70}},
		{"x^127 x^127", last, last, [16]byte{0xe6, 0x08, 15: 0x03}},
		{"(1 + x^127) x", plus(one, last), power(1), [16]byte{0xa1}},
	} {
		if x := Times(c.a, c.b); x != c.want {
			t.Errorf("%s: %x, not %x", c.name, x, c.want)
		}
		if x := Times(c.b, c.a); x != c.want {
			t.Errorf("%s the other way round: %x, not %x", c.name, x, c.want)
		}
	}
}

// P7.1: the products of all powers, each with each.
func TestEveryPower(t *testing.T) {
	var reached [255][16]byte // x^0, x^1 and so on to x^254
	for n := range reached {
		reached[n] = timesByTheBook(power(n/2), power(n-n/2))
	}
	for i := range 128 {
		for j := range 128 {
			if x := Times(power(i), power(j)); x != reached[i+j] {
				t.Fatalf("x^%d x^%d: %x, not %x", i, j, x, reached[i+j])
			}
		}
	}
}

// P7.1: products of many elements by the chapter's words; they hang on no
// order, on no grouping, and are those of the parts of a sum.
func TestTimes(t *testing.T) {
	r := rand.New(rand.NewSource(72))
	elements := [][16]byte{{}, one, full, power(127), {15: 0xff}, {0xff}, {7: 1}, {8: 0x80}}
	for range 60 {
		elements = append(elements, someBlock(r))
	}
	for i, a := range elements {
		for j, b := range elements {
			x := Times(a, b)
			if x != timesByTheBook(a, b) {
				t.Fatalf("%x times %x: %x", a, b, x)
			}
			if x != Times(b, a) {
				t.Fatalf("%x and %x hang on their order", a, b)
			}
			c := elements[(3*i+5*j)%len(elements)]
			if Times(x, c) != Times(a, Times(b, c)) {
				t.Fatalf("%x, %x and %x hang on how they are grouped", a, b, c)
			}
			if Times(plus(a, b), c) != plus(Times(a, c), Times(b, c)) {
				t.Fatalf("%x + %x times %x", a, b, c)
			}
		}
	}
}

// P7.1: an element taken 2^128 times is itself, as the field has as many.
func TestSquares(t *testing.T) {
	r := rand.New(rand.NewSource(73))
	for _, a := range [][16]byte{{}, one, power(1), power(127), full, someBlock(r)} {
		x := a
		for range 128 {
			x = Times(x, x)
		}
		if x != a {
			t.Errorf("%x: %x", a, x)
		}
	}
}

// R4: a product changes neither of both.
func TestTimesLeavesAll(t *testing.T) {
	a, b := [16]byte(rising(16)), full
	Times(a, b)
	if a != [16]byte(rising(16)) || b != [16]byte(bytes.Repeat([]byte{0xff}, 16)) {
		t.Fatalf("%x %x", a, b)
	}
}

// P7.2: all lengths of both up to some blocks, by the chapter's words and by
// the library.
func TestSumLengths(t *testing.T) {
	r := rand.New(rand.NewSource(74))
	library := libraryKeyOf(t, rising(16))
	k := New(library.h)
	aad, plain := someBytes(r, 50), someBytes(r, 50)
	for n := range len(aad) + 1 {
		for m := range len(plain) + 1 {
			want, text := library.sum(aad[:n], plain[:m])
			got := k.Sum(aad[:n], text)
			if got != want || got != sumByTheBook(library.h, aad[:n], text) {
				t.Fatalf("%d bytes along, %d of text: %x, not %x", n, m, got, want)
			}
		}
	}
}

// P7.2: many keys, and longer bytes.
func TestSumAgainstLibrary(t *testing.T) {
	r := rand.New(rand.NewSource(75))
	for i := range 300 {
		library := libraryKeyOf(t, someBytes(r, 16+16*(i%2)))
		k := New(library.h)
		aad := someBytes(r, r.Intn(300))
		want, text := library.sum(aad, someBytes(r, r.Intn(600)))
		if got := k.Sum(aad, text); got != want {
			t.Fatalf("%d bytes along, %d of text: %x, not %x", len(aad), len(text), got, want)
		}
	}
}

// P7.2: how many bits there are goes over as many bytes as it needs: of aad,
// of text, and of both.
func TestSumOfLongBytes(t *testing.T) {
	r := rand.New(rand.NewSource(76))
	library := libraryKeyOf(t, rising(32))
	k := New(library.h)
	long := someBytes(r, 1<<21+5)
	for _, n := range []int{31, 32, 33, 8191, 8192, 8193, 1<<21 - 1, 1 << 21, 1<<21 + 5} {
		for _, c := range [][2][]byte{{long[:n], nil}, {nil, long[:n]}, {long[:n], long[:33]}} {
			want, text := library.sum(c[0], c[1])
			if got := k.Sum(c[0], text); got != want {
				t.Fatalf("%d bytes along, %d of text: %x, not %x", len(c[0]), len(text), got, want)
			}
		}
	}
}

// P7.2: under the key 1 a sum is that of the blocks alone, so the last block is
// seen as it is: bits, not bytes, of aad in front, of text behind.
func TestLastBlock(t *testing.T) {
	k := New(one)
	for _, c := range []struct {
		aad, text int
		want      [16]byte
	}{
		{0, 0, [16]byte{}},
		{1, 0, [16]byte{7: 8}},
		{0, 1, [16]byte{15: 8}},
		{3, 2, [16]byte{7: 24, 15: 16}},
		{16, 31, [16]byte{7: 128, 15: 248}},
		{32, 33, [16]byte{6: 1, 14: 1, 15: 8}},
		{8192, 40000, [16]byte{5: 1, 13: 4, 14: 0xe2}},
		{1 << 21, 1<<21 + 1, [16]byte{4: 1, 12: 1, 15: 8}},
	} {
		if x := k.Sum(make([]byte, c.aad), make([]byte, c.text)); x != c.want {
			t.Errorf("%d bytes along, %d of text: %x, not %x", c.aad, c.text, x, c.want)
		}
	}
}

// P7.2: under the key 1, where every byte of a block stands in the sum; bytes
// that fill no block stand at its beginning.
func TestBlocks(t *testing.T) {
	k := New(one)
	for n := range 40 {
		b := rising(n + 1)[1:]
		var all [16]byte
		for i, v := range b {
			all[i%16] ^= v
		}
		inFront, behind := all, all
		inFront[6] ^= byte(8 * n >> 8)
		inFront[7] ^= byte(8 * n)
		behind[14] ^= byte(8 * n >> 8)
		behind[15] ^= byte(8 * n)
		if x := k.Sum(b, nil); x != inFront {
			t.Errorf("%d bytes along: %x, not %x", n, x, inFront)
		}
		if x := k.Sum(nil, b); x != behind {
			t.Errorf("%d bytes of text: %x, not %x", n, x, behind)
		}
	}
}

// P7.2: no bytes, be they nil or none, have no blocks; bytes 00 at the end
// count, by how many bits there are; and aad is no text.
func TestNoBytes(t *testing.T) {
	for _, h := range [][16]byte{{}, one, full, [16]byte(rising(16))} {
		k := New(h)
		for _, aad := range [][]byte{nil, {}, make([]byte, 0, 32), rising(32)[:0]} {
			for _, text := range [][]byte{nil, {}, make([]byte, 0, 32), rising(32)[:0]} {
				if x := k.Sum(aad, text); x != [16]byte{} {
					t.Errorf("key %x: the sum of no bytes is %x", h, x)
				}
			}
		}
	}
	k := New([16]byte(rising(16)))
	seen := map[[16]byte]string{}
	for n := range 40 {
		for name, x := range map[string][16]byte{"along": k.Sum(make([]byte, n), nil), "text": k.Sum(nil, make([]byte, n))} {
			if other, ok := seen[x]; ok && n > 0 {
				t.Errorf("%d bytes 00, %s, have the sum of others, %s", n, name, other)
			}
			seen[x] = name
		}
	}
}

// P7.2: of aad alone, of text alone, of both, and which stands where.
func TestAadIsNoText(t *testing.T) {
	h := [16]byte(rising(16))
	k := New(h)
	for _, n := range []int{1, 15, 16, 17, 32} {
		b := bytes.Repeat([]byte{7}, n)
		alone, text, both := k.Sum(b, nil), k.Sum(nil, b), k.Sum(b, b)
		if alone == text || alone == both || text == both {
			t.Errorf("%d bytes: %x %x %x", n, alone, text, both)
		}
		if alone != sumByTheBook(h, b, nil) || text != sumByTheBook(h, nil, b) || both != sumByTheBook(h, b, b) {
			t.Errorf("%d bytes: %x %x %x", n, alone, text, both)
		}
	}
	if k.Sum([]byte{1}, []byte{2}) == k.Sum([]byte{2}, []byte{1}) || k.Sum([]byte{1, 2}, []byte{3}) == k.Sum([]byte{1}, []byte{2, 3}) {
		t.Error("where aad ends is not seen")
	}
}

// P7.2: every bit of a block, and of h, counts.
func TestEveryBit(t *testing.T) {
	r := rand.New(rand.NewSource(77))
	h, b := someBlock(r), someBytes(r, 16)
	seen := map[[16]byte]bool{New(h).Sum(nil, b): true}
	for i := range 128 {
		turned := bytes.Clone(b)
		turned[i/8] ^= 1 << (i % 8)
		other := plus(h, power(i))
		for _, x := range [][2][16]byte{
			{New(h).Sum(nil, turned), sumByTheBook(h, nil, turned)},
			{New(other).Sum(nil, b), sumByTheBook(other, nil, b)},
		} {
			if seen[x[0]] || x[0] != x[1] {
				t.Fatalf("bit %d: %x, not %x", i, x[0], x[1])
			}
			seen[x[0]] = true
		}
	}
}

// P7.2: keys that are powers, nought among them.
func TestPlainKeys(t *testing.T) {
	aad, text := rising(21), rising(50)
	for i := range 128 {
		if x := New(power(i)).Sum(aad, text); x != sumByTheBook(power(i), aad, text) {
			t.Errorf("x^%d: %x", i, x)
		}
	}
	if x := New([16]byte{}).Sum(aad, text); x != [16]byte{} {
		t.Errorf("0: %x", x)
	}
}

// P7.2, R1: of no key: bytes 00. One that New didn't make is that of 0.
func TestNoKey(t *testing.T) {
	var none *Key
	for _, k := range []*Key{none, {}} {
		for _, b := range [][]byte{nil, {}, {1}, rising(16), rising(100)} {
			for _, c := range [][]byte{nil, {}, {1}, rising(16), rising(100)} {
				if x := k.Sum(b, c); x != [16]byte{} {
					t.Errorf("%d and %d bytes: %x", len(b), len(c), x)
				}
			}
		}
	}
}

// R4: a sum leaves aad and text as they were, and neither reads nor changes the
// room behind them.
func TestBytesAreLeftAlone(t *testing.T) {
	h := [16]byte(rising(16))
	k := New(h)
	for n := range 34 {
		aad := append(rising(n), bytes.Repeat([]byte{0xaa}, 40)...)
		text := append(rising(n), bytes.Repeat([]byte{0xbb}, 40)...)
		wasAad, wasText := bytes.Clone(aad), bytes.Clone(text)
		x := k.Sum(aad[:n], text[:n])
		if !bytes.Equal(aad, wasAad) || !bytes.Equal(text, wasText) {
			t.Fatalf("%d bytes became %x, %x", n, aad, text)
		}
		if x != sumByTheBook(h, rising(n), rising(n)) {
			t.Fatalf("%d bytes: the room behind them was read", n)
		}
	}
}

// R4: aad and text may be pieces of the same bytes.
func TestSharedBytes(t *testing.T) {
	h := [16]byte(rising(16))
	k := New(h)
	b := rising(60)
	for _, c := range [][2][]byte{{b, b}, {b[:20], b[20:]}, {b[:40], b[10:]}, {b[30:], b[:33]}} {
		if x := k.Sum(c[0], c[1]); x != sumByTheBook(h, bytes.Clone(c[0]), bytes.Clone(c[1])) {
			t.Errorf("%x, %x: %x", c[0], c[1], x)
		}
	}
	if !bytes.Equal(b, rising(60)) {
		t.Errorf("the bytes became %x", b)
	}
}

// R4: a key hangs neither on the bytes that it was made of, nor on those that
// it summed over.
func TestBytesAreNotKept(t *testing.T) {
	h, aad, text := [16]byte(rising(16)), rising(20), rising(30)
	was := h
	k := New(h)
	x := k.Sum(aad, text)
	clear(h[:])
	if k.Sum(aad, text) != x || x != sumByTheBook(was, aad, text) {
		t.Fatal("the key hangs on the bytes that it was made of")
	}
	clear(aad)
	clear(text)
	if k.Sum(rising(20), rising(30)) != x {
		t.Fatal("the key hangs on bytes that it summed over")
	}
	if k.Sum(aad, text) != sumByTheBook(was, make([]byte, 20), make([]byte, 30)) {
		t.Fatal("the sum of other bytes is an earlier one")
	}
}

// R6: a key doesn't hang on an earlier Sum, whatever that was over.
func TestSumsApart(t *testing.T) {
	h := [16]byte(rising(16))
	k := New(h)
	r := rand.New(rand.NewSource(78))
	want := sumByTheBook(h, rising(5), rising(40))
	for range 50 {
		if x := k.Sum(rising(5), rising(40)); x != want {
			t.Fatalf("%x, not %x", x, want)
		}
		k.Sum(someBytes(r, r.Intn(50)), someBytes(r, r.Intn(50)))
		Times(someBlock(r), h)
	}
}

// R4: two keys don't hang on each other, be they of the same bytes or not.
func TestKeysApart(t *testing.T) {
	h, g, aad, text := [16]byte(rising(16)), full, rising(5), rising(40)
	first, same, other := New(h), New(h), New(g)
	if first == same {
		t.Fatal("New made the same key twice")
	}
	check := func(k *Key, h [16]byte) {
		t.Helper()
		if k.Sum(aad, text) != sumByTheBook(h, aad, text) {
			t.Fatalf("the key of %x", h)
		}
	}
	for range 3 {
		check(first, h)
		check(other, g)
		check(same, h)
	}
	*first = Key{}
	check(same, h)
	check(other, g)
	check(New(h), h)
}

// FuzzTimes holds the product of any elements against the chapter's words.
func FuzzTimes(f *testing.F) {
	f.Add([]byte(nil), []byte(nil))
	f.Add(one[:], full[:])
	f.Add(rising(16), rising(3))
	f.Fuzz(func(t *testing.T, first, second []byte) {
		var a, b [16]byte
		copy(a[:], first)
		copy(b[:], second)
		if x := Times(a, b); x != timesByTheBook(a, b) || x != Times(b, a) {
			t.Fatalf("%x times %x: %x", a, b, x)
		}
	})
}

// FuzzSum holds the sum over any bytes against the chapter's words.
func FuzzSum(f *testing.F) {
	f.Add([]byte(nil), []byte(nil), []byte(nil))
	f.Add(rising(16), rising(16), rising(17))
	f.Add(full[:], rising(1), rising(0))
	f.Fuzz(func(t *testing.T, key, aad, text []byte) {
		var h [16]byte
		copy(h[:], key)
		wasAad, wasText := bytes.Clone(aad), bytes.Clone(text)
		if x := New(h).Sum(aad, text); x != sumByTheBook(h, aad, text) {
			t.Fatalf("key %x over %x and %x: %x", h, aad, text, x)
		}
		if !bytes.Equal(aad, wasAad) || !bytes.Equal(text, wasText) {
			t.Fatal("the bytes were changed")
		}
	})
}

func BenchmarkNew(b *testing.B) {
	for b.Loop() {
		New(full)
	}
}

func BenchmarkSum(b *testing.B) {
	k := New(full)
	text := rising(240)
	for b.Loop() {
		k.Sum(nil, text)
	}
}
