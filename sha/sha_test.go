package sha

import (
	"bytes"
	"crypto/sha256"
	"encoding"
	"encoding/binary"
	"encoding/hex"
	"slices"
	"strings"
	"testing"
)

// known are digests that the document or the standard tells.
var known = []struct {
	parts  []string
	digest string
}{
	{nil, "e3b0c442 98fc1c14 9afbf4c8 996fb924 27ae41e4 649b934c a495991b 7852b855"},
	{[]string{""}, "e3b0c442 98fc1c14 9afbf4c8 996fb924 27ae41e4 649b934c a495991b 7852b855"},
	{[]string{"", "", ""}, "e3b0c442 98fc1c14 9afbf4c8 996fb924 27ae41e4 649b934c a495991b 7852b855"},
	{[]string{"abc"}, "ba7816bf 8f01cfea 414140de 5dae2223 b00361a3 96177a9c b410ff61 f20015ad"},
	{[]string{"a", "bc"}, "ba7816bf 8f01cfea 414140de 5dae2223 b00361a3 96177a9c b410ff61 f20015ad"},
	{[]string{"", "a", "", "b", "c", ""}, "ba7816bf 8f01cfea 414140de 5dae2223 b00361a3 96177a9c b410ff61 f20015ad"},
	{[]string{"abcdbcdecdefdefgefghfghighijhijkijkljklmklmnlmnomnopnopq"}, "248d6a61 d20638b8 e5c02693 0c3e6039 a33ce459 64ff2167 f6ecedd4 19db06c1"},
	{[]string{strings.Repeat("a", 1000000)}, "cdc76e5c 9914fb92 81a1c7e2 84d73e67 f1809a48 a497200e 046d39cc c7112cd0"},
}

func text(d [32]byte) string { return hex.EncodeToString(d[:]) }

// some makes n bytes from a fixed row, none like the one beside it by rule.
func some(n int) []byte {
	b := make([]byte, n)
	x := uint64(n) + 1
	for i := range b {
		x = x*6364136223846793005 + 1442695040888963407
		b[i] = byte(x >> 56)
	}
	return b
}

// lengths has all up to four blocks, and some of many blocks with the edges
// beside them.
func lengths() []int {
	var l []int
	for n := range 4*64 + 2 {
		l = append(l, n)
	}
	for _, blocks := range []int{5, 16, 1000, 1024} {
		for _, n := range []int{-9, -8, -1, 0, 1, 55, 56, 63} {
			l = append(l, 64*blocks+n)
		}
	}
	return l
}

func TestOfKnown(t *testing.T) {
	for _, k := range known {
		var parts [][]byte
		for _, p := range k.parts {
			parts = append(parts, []byte(p))
		}
		if got := text(Of(parts...)); got != strings.ReplaceAll(k.digest, " ", "") {
			t.Errorf("Of of %d parts: %s, not %s", len(parts), got, k.digest)
		}
	}
}

func TestOfNothing(t *testing.T) {
	want := sha256.Sum256(nil)
	if Of() != want || Of(nil) != want || Of([]byte{}) != want || Of(nil, []byte{}, nil) != want {
		t.Error("no parts and empty parts are not all the digest of no bytes")
	}
	if Of([][]byte(nil)...) != want || Of([][]byte{}...) != want {
		t.Error("a list of no parts is not the digest of no bytes")
	}
}

func TestOfLengths(t *testing.T) {
	for _, n := range lengths() {
		for _, b := range [][]byte{some(n), make([]byte, n), bytes.Repeat([]byte{0xff}, n), bytes.Repeat([]byte{0x80}, n)} {
			if got, want := Of(b), sha256.Sum256(b); got != want {
				t.Fatalf("Of of %d bytes: %s, not %s", n, text(got), text(want))
			}
		}
	}
}

func TestOfCutAnywhere(t *testing.T) {
	for _, n := range []int{2, 55, 56, 63, 64, 65, 127, 128, 129, 200} {
		b := some(n)
		want := sha256.Sum256(b)
		for cut := range n + 1 {
			if got := Of(b[:cut], b[cut:]); got != want {
				t.Fatalf("%d bytes cut at %d: %s, not %s", n, cut, text(got), text(want))
			}
			second := cut + (n-cut)/2
			if got := Of(nil, b[:cut], []byte{}, b[cut:second], b[second:], nil); got != want {
				t.Fatalf("%d bytes cut at %d and %d: %s, not %s", n, cut, second, text(got), text(want))
			}
		}
		if got := Of(slices.Collect(slices.Chunk(b, 1))...); got != want {
			t.Fatalf("%d bytes one by one: %s, not %s", n, text(got), text(want))
		}
	}
}

func TestOfOrder(t *testing.T) {
	if Of([]byte("a"), []byte("b")) == Of([]byte("b"), []byte("a")) {
		t.Error("the order of the parts is lost")
	}
	same := some(70)
	if got, want := Of(same, same), sha256.Sum256(append(slices.Clone(same), same...)); got != want {
		t.Errorf("one part twice: %s, not %s", text(got), text(want))
	}
}

func TestOfAnyBit(t *testing.T) {
	b := some(130)
	seen := map[[32]byte]int{Of(b): -1}
	for bit := range 8 * len(b) {
		b[bit/8] ^= 1 << (bit % 8)
		d := Of(b)
		if other, there := seen[d]; there {
			t.Fatalf("bits %d and %d: one digest", bit, other)
		}
		if d != sha256.Sum256(b) {
			t.Fatalf("bit %d: %s", bit, text(d))
		}
		seen[d] = bit
		b[bit/8] ^= 1 << (bit % 8)
	}
}

func TestOfLeavesItsParts(t *testing.T) {
	for _, n := range []int{0, 1, 55, 56, 63, 64, 65, 200} {
		whole := some(n + 100)
		before := slices.Clone(whole)
		parts := [][]byte{whole[:n/2], whole[n/2 : n]}
		got := Of(parts...)
		if want := sha256.Sum256(before[:n]); got != want {
			t.Errorf("%d bytes with room behind them: %s, not %s", n, text(got), text(want))
		}
		if !bytes.Equal(whole, before) {
			t.Errorf("%d bytes: they, or the room behind them, were changed", n)
		}
		if len(parts) != 2 || len(parts[0]) != n/2 || len(parts[1]) != n-n/2 {
			t.Errorf("%d bytes: the list of parts was changed", n)
		}
	}
}

func TestSumOfNothing(t *testing.T) {
	want := sha256.Sum256(nil)
	s := New()
	if s == nil {
		t.Fatal("New answers nil")
	}
	for range 2 {
		if s.Sum() != want || s.Len() != 0 {
			t.Errorf("a new sum: %s of %d bytes", text(s.Sum()), s.Len())
		}
		s.Write(nil)
		s.Write([]byte{})
		s.Write(some(9)[:0])
	}
}

func TestSumLengths(t *testing.T) {
	for _, n := range lengths() {
		s, b := New(), some(n)
		s.Write(b)
		if want := sha256.Sum256(b); s.Sum() != want || s.Len() != n {
			t.Fatalf("%d bytes written: %s of %d, not %s", n, text(s.Sum()), s.Len(), text(want))
		}
	}
}

func TestSumGoesOn(t *testing.T) {
	for _, step := range []int{1, 2, 3, 7, 55, 56, 57, 63, 64, 65, 100, 128, 129} {
		s, b := New(), some(step*20)
		for at := 0; at < len(b); at += step {
			s.Write(b[at : at+step])
			s.Write(nil)
			want := sha256.Sum256(b[:at+step])
			for range 2 {
				if got := s.Sum(); got != want || s.Len() != at+step {
					t.Fatalf("by %d, %d bytes: %s of %d, not %s", step, at+step, text(got), s.Len(), text(want))
				}
			}
		}
	}
}

func TestSumCutAnywhere(t *testing.T) {
	b := some(150)
	want := sha256.Sum256(b)
	for first := range len(b) + 1 {
		for _, second := range []int{first, first + 1, first + 8, first + 63, first + 64, len(b)} {
			second = min(second, len(b))
			s := New()
			s.Write(b[:first])
			s.Write(b[first:second])
			s.Write(b[second:])
			if got := s.Sum(); got != want || s.Len() != len(b) {
				t.Fatalf("cut at %d and %d: %s of %d, not %s", first, second, text(got), s.Len(), text(want))
			}
		}
	}
}

func TestSumsAreApart(t *testing.T) {
	one, other := New(), New()
	one.Write([]byte("ab"))
	other.Write(some(64))
	one.Write([]byte("c"))
	if one.Sum() != sha256.Sum256([]byte("abc")) || other.Sum() != sha256.Sum256(some(64)) {
		t.Error("two sums share what was written")
	}
	if one.Len() != 3 || other.Len() != 64 || New().Len() != 0 || New().Sum() != sha256.Sum256(nil) {
		t.Error("a sum hands its bytes on to another one")
	}
	if Of([]byte("x")); one.Sum() != sha256.Sum256([]byte("abc")) {
		t.Error("Of changes a sum")
	}
}

func TestWriteLeavesAndKeepsNothing(t *testing.T) {
	for _, n := range []int{1, 55, 56, 63, 64, 65, 127, 128, 200} {
		whole := some(n + 100)
		before := slices.Clone(whole)
		s := New()
		s.Write(whole[:n])
		s.Sum()
		if !bytes.Equal(whole, before) {
			t.Errorf("%d bytes: they, or the room behind them, were changed", n)
		}
		clear(whole)
		if s.Sum() != sha256.Sum256(before[:n]) {
			t.Errorf("%d bytes: what was handed in is kept, not its values", n)
		}
		s.Write(before[n:])
		if s.Sum() != sha256.Sum256(before) {
			t.Errorf("%d bytes: what was handed in is kept, and more is written", n)
		}
	}
}

func TestSumAnswersNewMemory(t *testing.T) {
	s := New()
	s.Write([]byte("abc"))
	d := s.Sum()
	clear(d[:])
	if s.Sum() != sha256.Sum256([]byte("abc")) {
		t.Error("a digest that was changed by its owner changes the sum")
	}
}

func TestNilSum(t *testing.T) {
	var s *Sum
	for range 2 {
		if s.Sum() != sha256.Sum256(nil) || s.Len() != 0 {
			t.Errorf("a nil sum: %s of %d bytes", text(s.Sum()), s.Len())
		}
		s.Write(nil)
		s.Write([]byte("abc"))
		s.Write(some(200))
	}
}

func TestZeroSum(t *testing.T) {
	var s Sum
	if s.Sum() != sha256.Sum256(nil) || s.Len() != 0 {
		t.Errorf("a zero sum: %s of %d bytes", text(s.Sum()), s.Len())
	}
	s.Write(some(70))
	if s.Sum() != sha256.Sum256(some(70)) || s.Len() != 70 {
		t.Errorf("a zero sum with 70 bytes: %s of %d", text(s.Sum()), s.Len())
	}
}

// TestManyBits goes on from a state as if many bytes were written: the count
// of their bits has eight bytes.
func TestManyBits(t *testing.T) {
	for _, length := range []int{64, 8192, 1 << 28, 1 << 29, 1<<29 + 64, 1<<31 - 64, 1<<40 + 1<<32 + 64} {
		s := Sum{state: start, length: length}
		saved := []byte("sha\x03")
		for _, word := range start {
			saved = binary.BigEndian.AppendUint32(saved, word)
		}
		saved = binary.BigEndian.AppendUint64(append(saved, make([]byte, 64)...), uint64(length))
		other := sha256.New()
		if err := other.(encoding.BinaryUnmarshaler).UnmarshalBinary(saved); err != nil {
			t.Fatal(err)
		}
		s.Write(some(60))
		other.Write(some(60))
		if got := s.Sum(); !bytes.Equal(got[:], other.Sum(nil)) || s.Len() != length+60 {
			t.Errorf("behind %d bytes: %s of %d, not %x", length, text(got), s.Len(), other.Sum(nil))
		}
	}
}

func FuzzOf(f *testing.F) {
	f.Add([]byte("abc"), 1, 2)
	f.Add(some(200), 64, 128)
	f.Fuzz(func(t *testing.T, b []byte, first, second int) {
		first = min(max(first, 0), len(b))
		second = min(max(second, first), len(b))
		want := sha256.Sum256(b)
		if got := Of(b[:first], b[first:second], b[second:]); got != want {
			t.Errorf("%x cut at %d and %d: %s, not %s", b, first, second, text(got), text(want))
		}
		s := New()
		s.Write(b[:first])
		if s.Sum() != sha256.Sum256(b[:first]) {
			t.Errorf("%x written till %d: %s", b, first, text(s.Sum()))
		}
		s.Write(b[first:])
		if s.Sum() != want || s.Len() != len(b) {
			t.Errorf("%x written on from %d: %s of %d", b, first, text(s.Sum()), s.Len())
		}
	})
}

func BenchmarkOf(b *testing.B) {
	page := some(8192)
	b.SetBytes(int64(len(page)))
	for b.Loop() {
		Of(page)
	}
}
