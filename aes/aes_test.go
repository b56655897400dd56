package aes

import (
	"bytes"
	"crypto/aes"
	"encoding/hex"
	"math/rand"
	"slices"
	"strings"
	"testing"

	"thimble/api"
	"thimble/field"
)

// unhex tells the bytes of a text in base 16; spaces in it count nothing.
func unhex(t testing.TB, text string) []byte {
	t.Helper()
	b, err := hex.DecodeString(strings.ReplaceAll(text, " ", ""))
	if err != nil {
		t.Fatal(err)
	}
	return b
}

// rising tells n bytes 00 01 02 and so on.
func rising(n int) []byte {
	b := make([]byte, n)
	for i := range b {
		b[i] = byte(i)
	}
	return b
}

// someBytes tells n bytes that a seed fixes.
func someBytes(r *rand.Rand, n int) []byte {
	b := make([]byte, n)
	r.Read(b)
	return b
}

// cipherOf makes a cipher that must come to be.
func cipherOf(t testing.TB, key []byte) *Cipher {
	t.Helper()
	c, e := New(key)
	if e != api.OK || c == nil {
		t.Fatalf("New of %d bytes: %v, %d", len(key), c, e)
	}
	return c
}

// libraryEncrypts and libraryDecrypts are the same cipher out of the library.
func libraryEncrypts(t testing.TB, key []byte, b [16]byte) [16]byte {
	t.Helper()
	c, err := aes.NewCipher(key)
	if err != nil {
		t.Fatal(err)
	}
	var out [16]byte
	c.Encrypt(out[:], b[:])
	return out
}

func libraryDecrypts(t testing.TB, key []byte, b [16]byte) [16]byte {
	t.Helper()
	c, err := aes.NewCipher(key)
	if err != nil {
		t.Fatal(err)
	}
	var out [16]byte
	c.Decrypt(out[:], b[:])
	return out
}

// wordsByTheBook are the words of a key as the chapter tells them, byte by
// byte.
func wordsByTheBook(key []byte) []uint32 {
	n, all := 4, 44
	if len(key) == 32 {
		n, all = 8, 60
	}
	boxes := field.New()
	w := make([][4]byte, all)
	for i := range w {
		if i < n {
			w[i] = [4]byte(key[4*i:])
			continue
		}
		t := w[i-1]
		if i%n == 0 {
			t = [4]byte{boxes.Box(t[1]), boxes.Box(t[2]), boxes.Box(t[3]), boxes.Box(t[0])}
			factor := byte(1)
			for range i/n - 1 {
				factor = field.Times(factor, 2)
			}
			t[0] ^= factor
		}
		if n == 8 && i%8 == 4 {
			t = [4]byte{boxes.Box(t[0]), boxes.Box(t[1]), boxes.Box(t[2]), boxes.Box(t[3])}
		}
		for j := range t {
			w[i][j] = w[i-n][j] ^ t[j]
		}
	}
	words := make([]uint32, all)
	for i, b := range w {
		words[i] = uint32(b[0])*0x1000000 + uint32(b[1])*0x10000 + uint32(b[2])*0x100 + uint32(b[3])
	}
	return words
}

// encryptByTheBook goes the chapter's steps one by one, with the words that a
// cipher tells.
func encryptByTheBook(words []uint32, b [16]byte) [16]byte {
	boxes, rounds := field.New(), len(words)/4-1
	add := func(r int) {
		for i := range b {
			b[i] ^= byte(words[4*r+i/4] >> (24 - 8*(i%4)))
		}
	}
	add(0)
	for r := 1; r <= rounds; r++ {
		was := b
		for c := range 4 {
			for i := range 4 {
				b[4*c+i] = boxes.Box(was[4*((c+i)%4)+i])
			}
		}
		for c := 0; c < 4 && r < rounds; c++ {
			a := [4]byte(b[4*c:])
			for i := range 4 {
				b[4*c+i] = field.Times(2, a[i]) ^ field.Times(3, a[(i+1)%4]) ^ a[(i+2)%4] ^ a[(i+3)%4]
			}
		}
		add(r)
	}
	return b
}

// P6.2: the document's examples, and those of the standard, there and back.
func TestKnown(t *testing.T) {
	for _, c := range []struct{ key, plain, made string }{
		{"000102030405060708090a0b0c0d0e0f", "00112233445566778899aabbccddeeff", "69c4e0d8 6a7b0430 d8cdb780 70b4c55a"},
		{"000102030405060708090a0b0c0d0e0f101112131415161718191a1b1c1d1e1f", "00112233445566778899aabbccddeeff", "8ea2b7ca 516745bf eafc4990 4b496089"},
		{"2b7e151628aed2a6abf7158809cf4f3c", "3243f6a8885a308d313198a2e0370734", "3925841d02dc09fbdc118597196a0b32"},
		{"2b7e151628aed2a6abf7158809cf4f3c", "6bc1bee22e409f96e93d7e117393172a", "3ad77bb40d7a3660a89ecaf32466ef97"},
		{"603deb1015ca71be2b73aef0857d77811f352c073b6108d72d9810a30914dff4", "6bc1bee22e409f96e93d7e117393172a", "f3eed1bdb5d2a03c064b5a7e3db181f8"},
		{"00000000000000000000000000000000", "00000000000000000000000000000000", "66e94bd4ef8a2c3b884cfa59ca342b2e"},
	} {
		cipher := cipherOf(t, unhex(t, c.key))
		plain, made := [16]byte(unhex(t, c.plain)), [16]byte(unhex(t, c.made))
		if got := cipher.Encrypt(plain); got != made {
			t.Errorf("key %s: %s becomes %x", c.key, c.plain, got)
		}
		if got := cipher.Decrypt(made); got != plain {
			t.Errorf("key %s: %s comes from %x", c.key, c.made, got)
		}
	}
}

// P6.1: the standard's words of three keys, first, last, and where the rule
// changes.
func TestWordsKnown(t *testing.T) {
	for _, c := range []struct {
		key  string
		want map[int]uint32
	}{
		{"2b7e151628aed2a6abf7158809cf4f3c", map[int]uint32{0: 0x2b7e1516, 3: 0x09cf4f3c, 4: 0xa0fafe17, 5: 0x88542cb1, 7: 0x2a6c7605, 8: 0xf2c295f2, 40: 0xd014f9a8, 43: 0xb6630ca6}},
		{"603deb1015ca71be2b73aef0857d77811f352c073b6108d72d9810a30914dff4", map[int]uint32{0: 0x603deb10, 7: 0x0914dff4, 8: 0x9ba35411, 9: 0x8e6925af, 11: 0x2067fcde, 12: 0xa8b09c1a, 59: 0x706c631e}},
		{"000102030405060708090a0b0c0d0e0f", map[int]uint32{0: 0x00010203, 3: 0x0c0d0e0f, 4: 0xd6aa74fd, 43: 0x4d2b30c5}},
	} {
		words := cipherOf(t, unhex(t, c.key)).Words()
		for i, want := range c.want {
			if words[i] != want {
				t.Errorf("key %s: word %d is %08x, not %08x", c.key, i, words[i], want)
			}
		}
	}
}

// P6.1: all words of many keys of either length, by the chapter's words.
func TestWords(t *testing.T) {
	r := rand.New(rand.NewSource(61))
	for _, size := range []int{16, 32} {
		keys := [][]byte{make([]byte, size), bytes.Repeat([]byte{0xff}, size), rising(size)}
		for i := range 8 * size {
			one := make([]byte, size)
			one[i/8] = 1 << (i % 8)
			keys = append(keys, one)
		}
		for range 200 {
			keys = append(keys, someBytes(r, size))
		}
		for _, key := range keys {
			words := cipherOf(t, key).Words()
			if len(words) != 28+size || !slices.Equal(words, wordsByTheBook(key)) {
				t.Fatalf("the words of %x: %08x", key, words)
			}
		}
	}
}

// P6.1, R3: of every other length there is no cipher, of no key at all either.
func TestKeyLengths(t *testing.T) {
	key := rising(300)
	for n := range len(key) {
		c, e := New(key[:n])
		if n == 16 || n == 32 {
			if c == nil || e != api.OK {
				t.Errorf("%d bytes: %v, %d", n, c, e)
			}
			continue
		}
		if c != nil || e != api.ErrArg {
			t.Errorf("%d bytes: %v, %d", n, c, e)
		}
	}
	for _, none := range [][]byte{nil, {}, make([]byte, 0, 16), make([]byte, 1<<20)} {
		if c, e := New(none); c != nil || e != api.ErrArg {
			t.Errorf("%d bytes: %v, %d", len(none), c, e)
		}
	}
}

// P6.2: many blocks under many keys, against the library, and each of both
// leads back what the other one made.
func TestAgainstLibrary(t *testing.T) {
	r := rand.New(rand.NewSource(62))
	for i := range 400 {
		key := someBytes(r, 16+16*(i%2))
		c := cipherOf(t, key)
		for range 20 {
			b := [16]byte(someBytes(r, 16))
			made, from := c.Encrypt(b), c.Decrypt(b)
			if made != libraryEncrypts(t, key, b) || made != encryptByTheBook(c.Words(), b) {
				t.Fatalf("key %x: %x becomes %x", key, b, made)
			}
			if from != libraryDecrypts(t, key, b) {
				t.Fatalf("key %x: %x comes from %x", key, b, from)
			}
			if c.Decrypt(made) != b || c.Encrypt(from) != b {
				t.Fatalf("key %x: %x isn't led back", key, b)
			}
		}
	}
}

// P6.2: every byte in every place of a block, and blocks all of one byte.
func TestEveryByte(t *testing.T) {
	for _, size := range []int{16, 32} {
		key := rising(size)
		c := cipherOf(t, key)
		for v := range 256 {
			blocks := [][16]byte{[16]byte(bytes.Repeat([]byte{byte(v)}, 16))}
			for place := range 16 {
				var b [16]byte
				b[place] = byte(v)
				blocks = append(blocks, b)
			}
			for _, b := range blocks {
				made, from := c.Encrypt(b), c.Decrypt(b)
				if made != libraryEncrypts(t, key, b) || from != libraryDecrypts(t, key, b) {
					t.Fatalf("%x: %x, %x", b, made, from)
				}
				if c.Decrypt(made) != b || c.Encrypt(from) != b {
					t.Fatalf("%x isn't led back", b)
				}
			}
		}
	}
}

// P6.2: every single bit of a key of either length counts.
func TestEveryBitOfTheKey(t *testing.T) {
	var b [16]byte
	for _, size := range []int{16, 32} {
		seen := map[[16]byte]bool{cipherOf(t, make([]byte, size)).Encrypt(b): true}
		for i := range 8 * size {
			key := make([]byte, size)
			key[i/8] = 1 << (i % 8)
			made := cipherOf(t, key).Encrypt(b)
			if made != libraryEncrypts(t, key, b) || seen[made] {
				t.Fatalf("key %x: %x", key, made)
			}
			seen[made] = true
		}
	}
}

// P6.2: a chain of many blocks, each made of the one ahead, leads all the way
// back.
func TestChain(t *testing.T) {
	for _, size := range []int{16, 32} {
		key := rising(size)
		c := cipherOf(t, key)
		var b [16]byte
		want := b
		for range 1000 {
			b, want = c.Encrypt(b), libraryEncrypts(t, key, want)
		}
		if b != want {
			t.Fatalf("%x, not %x", b, want)
		}
		for range 1000 {
			b = c.Decrypt(b)
		}
		if b != [16]byte{} {
			t.Fatalf("back: %x", b)
		}
	}
}

// P6.2, R1: of no cipher: nothing. One that New didn't make is no other.
func TestNoCipher(t *testing.T) {
	var none *Cipher
	for _, c := range []*Cipher{none, {}} {
		for _, b := range [][16]byte{{}, {1}, [16]byte(rising(16)), [16]byte(bytes.Repeat([]byte{0xff}, 16))} {
			if x := c.Encrypt(b); x != [16]byte{} {
				t.Errorf("Encrypt: %x", x)
			}
			if x := c.Decrypt(b); x != [16]byte{} {
				t.Errorf("Decrypt: %x", x)
			}
		}
		if w := c.Words(); len(w) != 0 {
			t.Errorf("Words: %x", w)
		}
	}
}

// R4: New changes no key, and neither reads nor changes the room behind it.
func TestKeyIsLeftAlone(t *testing.T) {
	for _, size := range []int{16, 32} {
		room := append(rising(size), bytes.Repeat([]byte{0xaa}, 64)...)
		was := bytes.Clone(room)
		words := cipherOf(t, room[:size]).Words()
		if !bytes.Equal(room, was) {
			t.Fatalf("the key's room became %x", room)
		}
		if !slices.Equal(words, cipherOf(t, rising(size)).Words()) {
			t.Fatal("the room behind the key was read")
		}
	}
}

// R4: a cipher doesn't hang on the key's bytes once it is made.
func TestKeyIsNotKept(t *testing.T) {
	for _, size := range []int{16, 32} {
		key, b := rising(size), [16]byte(rising(16))
		c := cipherOf(t, key)
		words, made, from := c.Words(), c.Encrypt(b), c.Decrypt(b)
		clear(key)
		if !slices.Equal(c.Words(), words) || c.Encrypt(b) != made || c.Decrypt(b) != from {
			t.Fatal("the cipher hangs on its key's bytes")
		}
	}
}

// R4: a cipher doesn't hang on the words that it told, nor they on each other.
func TestWordsAreNew(t *testing.T) {
	for _, size := range []int{16, 32} {
		key, b := rising(size), [16]byte(rising(16))
		c := cipherOf(t, key)
		told := c.Words()
		other := c.Words()
		clear(told)
		_ = append(told, 1, 2, 3)
		if !slices.Equal(other, wordsByTheBook(key)) || !slices.Equal(c.Words(), wordsByTheBook(key)) {
			t.Fatal("the words hang on those that were told")
		}
		if c.Encrypt(b) != libraryEncrypts(t, key, b) || c.Decrypt(b) != libraryDecrypts(t, key, b) {
			t.Fatal("the cipher hangs on the words that it told")
		}
	}
}

// R4: a cipher doesn't hang on another one, of the same key or of a different
// one, made ahead of it or behind it.
func TestCiphersApart(t *testing.T) {
	narrow, wide, b := rising(16), rising(32), [16]byte(rising(16))
	one, same, other := cipherOf(t, narrow), cipherOf(t, narrow), cipherOf(t, wide)
	if one == same {
		t.Fatal("New made the same cipher twice")
	}
	check := func(c *Cipher, key []byte) {
		t.Helper()
		if c.Encrypt(b) != libraryEncrypts(t, key, b) || c.Decrypt(b) != libraryDecrypts(t, key, b) || !slices.Equal(c.Words(), wordsByTheBook(key)) {
			t.Fatalf("the cipher of %x", key)
		}
	}
	for range 3 {
		check(one, narrow)
		check(other, wide)
		check(same, narrow)
	}
	clear(one.words)
	*one.boxes = field.Boxes{}
	*one = Cipher{}
	check(same, narrow)
	check(other, wide)
	check(cipherOf(t, narrow), narrow)
}

// R4, R6: asking changes neither the block nor the cipher.
func TestAskingChangesNothing(t *testing.T) {
	for _, size := range []int{16, 32} {
		c := cipherOf(t, rising(size))
		b := [16]byte(rising(16))
		words, made, from := c.Words(), c.Encrypt(b), c.Decrypt(b)
		for range 5 {
			c.Encrypt(made)
			c.Decrypt(from)
			if c.Encrypt(b) != made || c.Decrypt(b) != from || !slices.Equal(c.Words(), words) || b != [16]byte(rising(16)) {
				t.Fatal("asking changed an answer")
			}
		}
	}
}

// FuzzCipher holds any key and any block against the library.
func FuzzCipher(f *testing.F) {
	f.Add([]byte(nil), []byte(nil))
	f.Add(rising(16), rising(16))
	f.Add(rising(24), rising(1))
	f.Add(rising(32), rising(20))
	f.Fuzz(func(t *testing.T, key, bytes []byte) {
		var b [16]byte
		copy(b[:], bytes)
		c, e := New(key)
		if len(key) != 16 && len(key) != 32 {
			if c != nil || e != api.ErrArg {
				t.Fatal(c, e)
			}
			return
		}
		if e != api.OK || !slices.Equal(c.Words(), wordsByTheBook(key)) {
			t.Fatal(e)
		}
		made, from := c.Encrypt(b), c.Decrypt(b)
		if made != libraryEncrypts(t, key, b) || from != libraryDecrypts(t, key, b) || c.Decrypt(made) != b || c.Encrypt(from) != b {
			t.Fatalf("%x %x", made, from)
		}
	})
}
