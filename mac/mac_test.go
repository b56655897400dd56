package mac

import (
	"bytes"
	"crypto/hmac"
	"crypto/sha256"
	"encoding/binary"
	"encoding/hex"
	"go/ast"
	"go/parser"
	"go/token"
	"math"
	"slices"
	"strings"
	"testing"
)

// known are digests under a key that the document or the standard tells.
var known = []struct {
	key    string
	parts  []string
	digest string
}{
	{"Jefe", []string{"what do ya want ", "for nothing?"}, "5bdcc146 bf60754e 6a042426 089575c7 5a003f08 9d273983 9dec58b9 64ec3843"},
	{"Jefe", []string{"what do ya want for nothing?"}, "5bdcc146 bf60754e 6a042426 089575c7 5a003f08 9d273983 9dec58b9 64ec3843"},
	{strings.Repeat("\x0b", 20), []string{"Hi There"}, "b0344c61 d8db3853 5ca8afce af0bf12b 881dc200 c9833da7 26e9376c 2e32cff7"},
	{strings.Repeat("\xaa", 20), []string{strings.Repeat("\xdd", 50)}, "773ea91e 36800e46 854db8eb d09181a7 2959098b 3ef8c122 d9635514 ced565fe"},
	{strings.Repeat("\xaa", 131), []string{"Test Using Larger Than Block-Size Key - Hash Key First"}, "60e43159 1ee0b67f 0d8a26aa cbf5b77f 8e0bc621 3728c514 0546040f 0ee37f54"},
	{strings.Repeat("\xaa", 131), []string{"This is a test using a larger than block-size key and a larger than block-size data. The key needs to be hashed before being used by the HMAC algorithm."}, "9b09ffa7 1b942fcb 27635fbc d5b0e944 bfdc6364 4f071393 8a7f5153 5c3a35e2"},
	{"", nil, "b613679a 0814d9ec 772f95d7 78c35fc5 ff1697c4 93715653 c6c71214 4292c5ad"},
}

// keyLengths has every length up to two blocks and a few of more.
func keyLengths() []int {
	var l []int
	for n := range 2*64 + 2 {
		l = append(l, n)
	}
	return append(l, 191, 192, 193, 255, 256, 1000, 4096)
}

// some makes n bytes from a fixed row that the seed chooses.
func some(n, seed int) []byte {
	b := make([]byte, n)
	x := uint64(seed)*2654435761 + uint64(n) + 1
	for i := range b {
		x = x*6364136223846793005 + 1442695040888963407
		b[i] = byte(x >> 56)
	}
	return b
}

// library is what Go's own library tells of the bytes under the key.
func library(key, b []byte) [32]byte {
	h := hmac.New(sha256.New, key)
	h.Write(b)
	return [32]byte(h.Sum(nil))
}

// libraryKey is what Key must tell, by the library.
func libraryKey(master []byte, epoch uint32, wide bool) []byte {
	size := 16
	if wide {
		size = 32
	}
	b := binary.BigEndian.AppendUint32([]byte("thimble"), epoch)
	d := library(master, append(b, byte(size)))
	return d[:size]
}

func TestOfKnown(t *testing.T) {
	for _, k := range known {
		var parts [][]byte
		for _, p := range k.parts {
			parts = append(parts, []byte(p))
		}
		got := Of([]byte(k.key), parts...)
		if hex.EncodeToString(got[:]) != strings.ReplaceAll(k.digest, " ", "") {
			t.Errorf("Of under %q: %x, not %s", k.key, got, k.digest)
		}
	}
}

// TestOfAsWritten builds the digest word for word as the promise has it.
func TestOfAsWritten(t *testing.T) {
	for _, n := range []int{0, 1, 63, 64, 65, 200} {
		key, part := some(n, 1), some(90, 2)
		block := slices.Clone(key)
		if n > 64 {
			digest := sha256.Sum256(key)
			block = digest[:]
		}
		block = append(block, make([]byte, 64-len(block))...)
		var outer, inner []byte
		for _, c := range block {
			outer, inner = append(outer, c^0x5c), append(inner, c^0x36)
		}
		inside := sha256.Sum256(append(inner, part...))
		want := sha256.Sum256(append(outer, inside[:]...))
		if got := Of(key, part); got != want {
			t.Errorf("a key of %d bytes: %x, not %x", n, got, want)
		}
	}
}

func TestOfKeyLengths(t *testing.T) {
	part := some(100, 3)
	for _, n := range keyLengths() {
		for _, key := range [][]byte{some(n, 4), make([]byte, n), bytes.Repeat([]byte{0xff}, n), bytes.Repeat([]byte{0x5c}, n), bytes.Repeat([]byte{0x36}, n)} {
			if got, want := Of(key, part), library(key, part); got != want {
				t.Fatalf("a key of %d bytes: %x, not %x", n, got, want)
			}
			if got, want := Of(key), library(key, nil); got != want {
				t.Fatalf("a key of %d bytes and no parts: %x, not %x", n, got, want)
			}
		}
	}
}

func TestOfKeyBlocks(t *testing.T) {
	part := []byte("part")
	if Of(nil, part) != Of([]byte{}, part) || Of(nil, part) != Of(make([]byte, 64), part) {
		t.Error("no key is not a block of noughts")
	}
	key := some(63, 5)
	if Of(key, part) != Of(append(slices.Clone(key), 0), part) {
		t.Error("a nought behind 63 bytes of a key is another key")
	}
	whole := some(64, 5)
	if Of(whole, part) == Of(append(slices.Clone(whole), 0), part) {
		t.Error("a nought behind 64 bytes of a key is the same key")
	}
	long := some(65, 5)
	digest := sha256.Sum256(long)
	if Of(long, part) != Of(digest[:], part) {
		t.Error("a key of 65 bytes is not its digest")
	}
	digest = sha256.Sum256(whole)
	if Of(whole, part) == Of(digest[:], part) {
		t.Error("a key of 64 bytes is its digest")
	}
	if Of(whole, part) == Of(whole[:63], part) || Of(long, part) == Of(whole, part) {
		t.Error("the last byte of a key is lost")
	}
}

func TestOfAnyBitOfTheKey(t *testing.T) {
	for _, n := range []int{64, 100} {
		key := some(n, 6)
		seen := map[[32]byte]int{Of(key): -1}
		for bit := range 8 * n {
			key[bit/8] ^= 1 << (bit % 8)
			d := Of(key)
			if other, there := seen[d]; there {
				t.Fatalf("a key of %d bytes, bits %d and %d: one digest", n, bit, other)
			}
			seen[d] = bit
			key[bit/8] ^= 1 << (bit % 8)
		}
	}
}

func TestOfNothing(t *testing.T) {
	for _, key := range [][]byte{nil, {}, []byte("k"), some(64, 7), some(65, 7)} {
		want := library(key, nil)
		if Of(key) != want || Of(key, nil) != want || Of(key, []byte{}) != want || Of(key, nil, []byte{}, nil) != want {
			t.Errorf("a key of %d bytes: no parts and empty parts are not all the same", len(key))
		}
		if Of(key, [][]byte(nil)...) != want || Of(key, [][]byte{}...) != want {
			t.Errorf("a key of %d bytes: a list of no parts is something", len(key))
		}
	}
}

func TestOfCutAnywhere(t *testing.T) {
	for _, n := range []int{1, 2, 55, 56, 63, 64, 65, 128, 200} {
		key, b := some(n, 8), some(n, 9)
		want := library(key, b)
		for cut := range n + 1 {
			if got := Of(key, b[:cut], b[cut:]); got != want {
				t.Fatalf("%d bytes cut at %d: %x, not %x", n, cut, got, want)
			}
			second := cut + (n-cut)/2
			if got := Of(key, nil, b[:cut], []byte{}, b[cut:second], b[second:], nil); got != want {
				t.Fatalf("%d bytes cut at %d and %d: %x, not %x", n, cut, second, got, want)
			}
		}
		if got := Of(key, slices.Collect(slices.Chunk(b, 1))...); got != want {
			t.Fatalf("%d bytes one by one: %x, not %x", n, got, want)
		}
	}
}

func TestOfOrder(t *testing.T) {
	a, b := []byte("a"), []byte("b")
	if Of(a, a, b) == Of(a, b, a) {
		t.Error("the order of the parts is lost")
	}
	if Of(a, b) == Of(b, a) || Of(a, b) == Of(nil, a, b) {
		t.Error("the key is a part, or a part the key")
	}
	same := some(70, 10)
	if got, want := Of(same, same, same), library(same, append(slices.Clone(same), same...)); got != want {
		t.Errorf("the key as its own parts: %x, not %x", got, want)
	}
}

func TestOfLeavesWhatIsHandedIn(t *testing.T) {
	for _, n := range []int{0, 1, 31, 32, 63, 64, 65, 200} {
		key, whole := some(n+100, 11), some(n+100, 12)
		keyBefore, wholeBefore := slices.Clone(key), slices.Clone(whole)
		room := [][]byte{whole[:n/2], whole[n/2 : n], []byte("behind"), []byte("the length")}
		parts := room[:2]
		if got, want := Of(key[:n], parts...), library(keyBefore[:n], wholeBefore[:n]); got != want {
			t.Errorf("%d bytes with room behind them: %x, not %x", n, got, want)
		}
		if !bytes.Equal(key, keyBefore) || !bytes.Equal(whole, wholeBefore) {
			t.Errorf("%d bytes: they, or the room behind them, were changed", n)
		}
		if len(room[0]) != n/2 || len(room[1]) != n-n/2 || string(room[2]) != "behind" || string(room[3]) != "the length" {
			t.Errorf("%d bytes: the list of parts, or the room behind it, was changed", n)
		}
	}
}

func TestOfKeepsNothing(t *testing.T) {
	key, part := some(80, 13), some(80, 14)
	want := library(key, part)
	first := Of(key, part)
	clear(first[:])
	otherKey, otherPart := slices.Clone(key), slices.Clone(part)
	clear(key)
	clear(part)
	if Of(otherKey, otherPart) != want {
		t.Error("the second call tells otherwise than the first")
	}
	if Of(key, part) != library(key, part) {
		t.Error("what was handed in before is kept")
	}
}

func TestSame(t *testing.T) {
	for _, n := range []int{0, 1, 2, 15, 16, 17, 32, 64, 1000} {
		a := some(n, 15)
		if !Same(a, a) || !Same(a, slices.Clone(a)) {
			t.Errorf("%d bytes are not the same as they", n)
		}
		if Same(a, append(slices.Clone(a), 0)) || Same(append(slices.Clone(a), 0), a) {
			t.Errorf("%d bytes and one more are the same", n)
		}
		for place := range n {
			b := slices.Clone(a)
			b[place]++
			if Same(a, b) || Same(b, a) {
				t.Errorf("%d bytes that part at %d are the same", n, place)
			}
			if Same(a, a[:place]) || Same(a[:place], a) {
				t.Errorf("%d bytes and the first %d of them are the same", n, place)
			}
		}
	}
}

func TestSameNothing(t *testing.T) {
	nothings := [][]byte{nil, {}, make([]byte, 0, 8), some(9, 16)[:0]}
	for i, a := range nothings {
		for j, b := range nothings {
			if !Same(a, b) {
				t.Errorf("nothing (%d) and nothing (%d) are not the same", i, j)
			}
		}
		if Same(a, []byte{0}) || Same([]byte{0}, a) || Same(a, some(32, 16)) || Same(some(32, 16), a) {
			t.Errorf("nothing (%d) and something are the same", i)
		}
	}
}

func TestSameEveryPairOfBytes(t *testing.T) {
	for x := range 256 {
		for y := range 256 {
			a, b := []byte{7, byte(x), 7}, []byte{7, byte(y), 7}
			if Same(a, b) != (x == y) {
				t.Fatalf("%02x and %02x: %t", x, y, Same(a, b))
			}
		}
	}
}

// TestSameGathers has differences that a sum, or an xor of all, would lose.
func TestSameGathers(t *testing.T) {
	for _, pair := range [][2]string{
		{"ab", "ba"},
		{"\x00\x00", "\x01\x01"},
		{"\x00\x00", "\x01\xff"},
		{"\x00\x00\x00", "\x01\x02\x03"},
		{"\x80\x80", "\x00\x00"},
		{strings.Repeat("\x00", 256), strings.Repeat("\x01", 256)},
		{strings.Repeat("\x00", 2), strings.Repeat("\x80", 2)},
		{"a\x00", "a"},
		{"\x00a", "a"},
	} {
		if Same([]byte(pair[0]), []byte(pair[1])) || Same([]byte(pair[1]), []byte(pair[0])) {
			t.Errorf("%x and %x are the same", pair[0], pair[1])
		}
	}
}

func TestSameLeavesAndReadsNothingBehind(t *testing.T) {
	a, b := some(40, 17), some(40, 17)
	for i := 20; i < 40; i++ {
		b[i]++
	}
	aBefore, bBefore := slices.Clone(a), slices.Clone(b)
	if !Same(a[:20], b[:20]) || Same(a[:21], b[:21]) || Same(a[:20], a[:19]) {
		t.Error("the room behind the length is read")
	}
	if !bytes.Equal(a, aBefore) || !bytes.Equal(b, bBefore) {
		t.Error("what was handed in was changed")
	}
	shared := some(21, 18)
	if !Same(shared[:20], shared[:20]) || Same(shared[:20], shared[1:]) {
		t.Error("bytes of one memory are held against each other wrongly")
	}
}

// TestSameGoesOverAll reads the function's text: what time it takes can't be
// told by a test, but that its loop has no way out can.
func TestSameGoesOverAll(t *testing.T) {
	file, err := parser.ParseFile(token.NewFileSet(), "mac.go", nil, 0)
	if err != nil {
		t.Fatal(err)
	}
	loops := 0
	ast.Inspect(file, func(n ast.Node) bool {
		if f, ok := n.(*ast.FuncDecl); ok && f.Name.Name != "Same" {
			return false
		}
		loop, ok := n.(*ast.RangeStmt)
		if !ok {
			return true
		}
		loops++
		ast.Inspect(loop.Body, func(n ast.Node) bool {
			switch n.(type) {
			case *ast.ReturnStmt, *ast.BranchStmt, *ast.IfStmt, *ast.SwitchStmt, *ast.CallExpr:
				t.Errorf("Same may leave its loop: %T", n)
			}
			return true
		})
		return false
	})
	if loops != 1 {
		t.Errorf("Same has %d loops over its bytes", loops)
	}
}

func TestKey(t *testing.T) {
	masters := [][]byte{nil, {}, []byte("k"), make([]byte, 1), make([]byte, 64), some(16, 19), some(32, 19), some(63, 19), some(64, 19), some(65, 19), some(1000, 19)}
	epochs := []uint32{0, 1, 2, 0x7f, 0x80, 0xff, 0x100, 0xffff, 0x10000, 0xffffff, 0x1000000, 0x01020304, math.MaxInt32, 1 << 31, math.MaxUint32 - 1, math.MaxUint32}
	for _, master := range masters {
		for _, epoch := range epochs {
			for _, wide := range []bool{false, true} {
				got, want := Key(master, epoch, wide), libraryKey(master, epoch, wide)
				if !bytes.Equal(got, want) {
					t.Errorf("Key of %d bytes, epoch %d, wide %t: %x, not %x", len(master), epoch, wide, got, want)
				}
			}
		}
	}
}

// TestKeyKnown has keys that were worked out by another program.
func TestKeyKnown(t *testing.T) {
	for _, k := range []struct {
		master string
		epoch  uint32
		wide   bool
		key    string
	}{
		{"k", 0x01020304, false, "1ef26b66e6ce727494ae94c2cce66aa5"},
		{"k", 0x01020304, true, "096fb13eaa162a4186ba69ff3a3745360ad12e95720e3771a138324a11abc903"},
		{"", 0, false, "7cfb9bba871de02516f514575c4c992f"},
		{"", 0, true, "d1b527b74360b04edadfefb5fad0ee33fb7cf87250df9b159b03c14d4de99d2d"},
		{strings.Repeat("m", 65), math.MaxUint32, false, "ded14a11ac0941262a9c207a4e4a2de7"},
		{strings.Repeat("m", 65), math.MaxUint32, true, "03a2503ffec51cf90d2d310cc1c08f4311806315c46e434ac6c7a1762147ca4c"},
	} {
		if got := hex.EncodeToString(Key([]byte(k.master), k.epoch, k.wide)); got != k.key {
			t.Errorf("Key of %q, epoch %d, wide %t: %s, not %s", k.master, k.epoch, k.wide, got, k.key)
		}
	}
}

func TestKeysAreApart(t *testing.T) {
	seen := map[string]uint32{}
	for _, master := range [][]byte{nil, []byte("k"), []byte("l"), some(65, 20)} {
		for epoch := range uint32(300) {
			narrow, wide := Key(master, epoch, false), Key(master, epoch, true)
			for _, key := range [][]byte{narrow, wide, wide[:16], wide[16:]} {
				if other, there := seen[string(key)]; there {
					t.Fatalf("epochs %d and %d share a key", epoch, other)
				}
				seen[string(key)] = epoch
			}
		}
	}
}

func TestKeyAnswersNewMemory(t *testing.T) {
	for _, wide := range []bool{false, true} {
		first, second := Key([]byte("k"), 1, wide), Key([]byte("k"), 1, wide)
		clear(first[:cap(first)])
		if want := libraryKey([]byte("k"), 1, wide); !bytes.Equal(second, want) || !bytes.Equal(Key([]byte("k"), 1, wide), want) {
			t.Errorf("wide %t: a key that was changed by its owner changes another", wide)
		}
		for i, c := range second[len(second):cap(second)] {
			if c != 0 {
				t.Errorf("wide %t: the room behind a key tells more of the digest, at %d", wide, i)
			}
		}
	}
}

func TestKeyLeavesAndKeepsNothing(t *testing.T) {
	for _, n := range []int{0, 1, 16, 32, 63, 64, 65, 200} {
		master := some(n+100, 21)
		before := slices.Clone(master)
		for _, wide := range []bool{false, true} {
			key := Key(master[:n], 7, wide)
			want := libraryKey(before[:n], 7, wide)
			if !bytes.Equal(key, want) {
				t.Errorf("a master key of %d bytes with room behind it: %x, not %x", n, key, want)
			}
			if !bytes.Equal(master, before) {
				t.Errorf("a master key of %d bytes: it, or the room behind it, was changed", n)
			}
			clear(master)
			if !bytes.Equal(key, want) {
				t.Errorf("a master key of %d bytes is shared by its key", n)
			}
			copy(master, before)
		}
	}
}

func FuzzOf(f *testing.F) {
	f.Add([]byte("Jefe"), []byte("what do ya want for nothing?"), 16, 20)
	f.Add(some(65, 22), some(200, 23), 64, 128)
	f.Fuzz(func(t *testing.T, key, b []byte, first, second int) {
		first = min(max(first, 0), len(b))
		second = min(max(second, first), len(b))
		want := library(key, b)
		if got := Of(key, b[:first], b[first:second], b[second:]); got != want {
			t.Errorf("%x under %x cut at %d and %d: %x, not %x", b, key, first, second, got, want)
		}
	})
}

func FuzzSame(f *testing.F) {
	f.Add([]byte("abc"), []byte("abd"))
	f.Add([]byte(nil), []byte{0})
	f.Fuzz(func(t *testing.T, a, b []byte) {
		if got := Same(a, b); got != bytes.Equal(a, b) {
			t.Errorf("%x and %x: %t", a, b, got)
		}
		if !Same(a, slices.Clone(a)) {
			t.Errorf("%x and itself: false", a)
		}
	})
}

func FuzzKey(f *testing.F) {
	f.Add([]byte("k"), uint32(1), false)
	f.Add(some(65, 24), uint32(math.MaxUint32), true)
	f.Fuzz(func(t *testing.T, master []byte, epoch uint32, wide bool) {
		if got, want := Key(master, epoch, wide), libraryKey(master, epoch, wide); !bytes.Equal(got, want) {
			t.Errorf("Key of %x, %d, %t: %x, not %x", master, epoch, wide, got, want)
		}
	})
}
