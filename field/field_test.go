package field

import (
	"encoding/hex"
	"go/ast"
	"go/parser"
	"go/token"
	"math"
	"strings"
	"testing"
)

// standard holds the boxes of all bytes as the standard of the cipher prints
// them.
const standard = `
637c777bf26b6fc53001672bfed7ab76
ca82c97dfa5947f0add4a2af9ca472c0
b7fd9326363ff7cc34a5e5f171d83115
04c723c31896059a071280e2eb27b275
09832c1a1b6e5aa0523bd6b329e32f84
53d100ed20fcb15b6acbbe394a4c58cf
d0efaafb434d338545f9027f503c9fa8
51a3408f929d38f5bcb6da2110fff3d2
cd0c13ec5f974417c4a77e3d645d1973
60814fdc222a908846eeb814de5e0bdb
e0323a0a4906245cc2d3ac629195e479
e7c8376d8dd54ea96c56f4ea657aae08
ba78252e1ca6b4c6e8dd741f4bbd8b8a
703eb5664803f60e613557b986c11d9e
e1f8981169d98e949b1e87e9ce5528df
8ca1890dbfe6426841992d0fb054bb16`

// standardBoxes are the bytes of the standard's table.
func standardBoxes(t *testing.T) []byte {
	t.Helper()
	b, err := hex.DecodeString(strings.ReplaceAll(standard, "\n", ""))
	if err != nil || len(b) != 256 {
		t.Fatal(len(b), err)
	}
	return b
}

// product is the document's word for it: the polynomials' whole product, less
// multiples of x^8 + x^4 + x^3 + x + 1 as long as it has x^8 or more.
func product(a, b byte) byte {
	whole := 0
	for i := range 8 {
		for j := range 8 {
			whole ^= (int(a>>i&1) * int(b>>j&1)) << (i + j)
		}
	}
	for i := 15; i >= 8; i-- {
		if whole>>i&1 == 1 {
			whole ^= 0x11b << (i - 8)
		}
	}
	return byte(whole)
}

// inverse is the document's word for it, found by trying all bytes.
func inverse(a byte) byte {
	for b := range 256 {
		if product(a, byte(b)) == 1 {
			return byte(b)
		}
	}
	return 0
}

// box is the document's word for it, bit by bit.
func box(a byte) byte {
	b, made := inverse(a), byte(0)
	for i := range 8 {
		sum := 0x63 >> i & 1
		for _, far := range []int{0, 4, 5, 6, 7} {
			sum += int(b >> ((i + far) % 8) & 1)
		}
		made |= byte(sum%2) << i
	}
	return made
}

// P5.1: the document's examples and the standard's.
func TestKnown(t *testing.T) {
	for _, c := range [][3]byte{{0x57, 0x83, 0xc1}, {0x57, 0x13, 0xfe}, {0x57, 0x02, 0xae}, {0x57, 0x04, 0x47}, {0x57, 0x08, 0x8e}, {0x57, 0x10, 0x07}, {0x53, 0xca, 1}, {0x80, 2, 0x1b}, {0xff, 0xff, 0x13}} {
		if p := Times(c[0], c[1]); p != c[2] {
			t.Errorf("Times(%x, %x): %x", c[0], c[1], p)
		}
	}
	if b := Inverse(0x53); b != 0xca {
		t.Errorf("Inverse(53): %x", b)
	}
}

// P5.1: the product of every two bytes.
func TestTimes(t *testing.T) {
	for i := range 256 {
		for j := range 256 {
			a, b := byte(i), byte(j)
			if p := Times(a, b); p != product(a, b) {
				t.Fatalf("Times(%x, %x): %x", a, b, p)
			}
			if Times(a, b) != Times(b, a) {
				t.Fatalf("Times(%x, %x) and the other way round", a, b)
			}
		}
	}
}

// P5.1: products with 0 and 1.
func TestTimesEdges(t *testing.T) {
	for i := range 256 {
		a := byte(i)
		if Times(a, 0) != 0 || Times(0, a) != 0 || Times(a, 1) != a || Times(1, a) != a {
			t.Fatalf("%x: %x %x %x %x", a, Times(a, 0), Times(0, a), Times(a, 1), Times(1, a))
		}
	}
}

// P5.1: products are those of a field: over sums, and three in any order.
func TestTimesLaws(t *testing.T) {
	for i := range 256 {
		for j := range 256 {
			for k := 0; k < 256; k += 5 {
				a, b, c := byte(i), byte(j), byte(k)
				if Times(a, b^c) != Times(a, b)^Times(a, c) {
					t.Fatalf("a sum: %x %x %x", a, b, c)
				}
				if Times(Times(a, b), c) != Times(a, Times(b, c)) {
					t.Fatalf("three: %x %x %x", a, b, c)
				}
			}
		}
	}
}

// P5.1: the power of every byte, step by step past a whole round of powers.
func TestPower(t *testing.T) {
	for i := range 256 {
		a, want := byte(i), byte(1)
		for n := range 2*256 + 3 {
			if p := Power(a, n); p != want {
				t.Fatalf("Power(%x, %d): %x, not %x", a, n, p, want)
			}
			want = product(want, a)
		}
	}
}

// P5.1: n below 1 is 1, of 0 too.
func TestPowerBelowOne(t *testing.T) {
	for i := range 256 {
		for _, n := range []int{0, -1, -2, -3, -254, -255, -256, math.MinInt32, math.MinInt + 1, math.MinInt} {
			if p := Power(byte(i), n); p != 1 {
				t.Fatalf("Power(%x, %d): %x", i, n, p)
			}
		}
	}
}

// P5.1: great n: all of them end at once, and the powers go round by 255.
func TestPowerGreat(t *testing.T) {
	for i := range 256 {
		a := byte(i)
		for _, n := range []int{1 << 20, math.MaxInt32, 1 << 62, 1<<62 + 1, math.MaxInt - 255, math.MaxInt - 1, math.MaxInt} {
			want := byte(0)
			if a != 0 {
				want = byte(1)
				for range n % 255 {
					want = product(want, a)
				}
			}
			if p := Power(a, n); p != want {
				t.Fatalf("Power(%x, %d): %x, not %x", a, n, p, want)
			}
		}
	}
}

// P5.1: the inverse of every byte, of 0 too.
func TestInverse(t *testing.T) {
	if b := Inverse(0); b != 0 {
		t.Fatalf("Inverse(0): %x", b)
	}
	if b := Inverse(1); b != 1 {
		t.Fatalf("Inverse(1): %x", b)
	}
	for i := 1; i < 256; i++ {
		a := byte(i)
		b := Inverse(a)
		if b != inverse(a) || product(a, b) != 1 || Inverse(b) != a {
			t.Fatalf("Inverse(%x): %x", a, b)
		}
	}
}

// P5.2: the document's examples.
func TestBoxesKnown(t *testing.T) {
	x := New()
	if x.Box(0) != 0x63 || x.Box(0x53) != 0xed || x.Back(0x63) != 0 || x.Back(0xed) != 0x53 || x.Mix(0x53) != 0xc1eded2c {
		t.Fatalf("%x %x %x %x %x", x.Box(0), x.Box(0x53), x.Back(0x63), x.Back(0xed), x.Mix(0x53))
	}
}

// P5.2: the box of every byte, by the document's words and by the standard's
// table.
func TestBox(t *testing.T) {
	x, table := New(), standardBoxes(t)
	for i := range 256 {
		a := byte(i)
		if s := x.Box(a); s != box(a) || s != table[i] {
			t.Fatalf("Box(%x): %x, not %x, %x", a, s, box(a), table[i])
		}
	}
}

// P5.2: the back box of every byte is the one whose box it is, and the other
// way round.
func TestBack(t *testing.T) {
	x := New()
	for i := range 256 {
		a := byte(i)
		if b := x.Back(a); box(b) != a || x.Box(b) != a {
			t.Fatalf("Back(%x): %x", a, b)
		}
		if b := x.Back(x.Box(a)); b != a {
			t.Fatalf("Back(Box(%x)): %x", a, b)
		}
	}
}

// P5.2: all four bytes of every byte's column, each in its place.
func TestMix(t *testing.T) {
	x := New()
	for i := range 256 {
		a := byte(i)
		s, m := box(a), x.Mix(a)
		got := [4]byte{byte(m >> 24), byte(m >> 16), byte(m >> 8), byte(m)}
		if want := [4]byte{product(2, s), s, s, product(3, s)}; got != want {
			t.Fatalf("Mix(%x): %x, not %x", a, got, want)
		}
	}
	if x.Mix(0) != 0xc66363a5 || x.Mix(x.Back(0)) != 0 {
		t.Fatalf("%x %x", x.Mix(0), x.Mix(x.Back(0)))
	}
}

// P5.2: of no boxes, every answer is 0.
func TestNilBoxes(t *testing.T) {
	var none *Boxes
	for i := range 256 {
		a := byte(i)
		if none.Box(a) != 0 || none.Back(a) != 0 || none.Mix(a) != 0 {
			t.Fatalf("%x: %x %x %x", a, none.Box(a), none.Back(a), none.Mix(a))
		}
	}
}

// R1: boxes that New did not make hold nothing, and don't panic.
func TestZeroBoxes(t *testing.T) {
	var empty Boxes
	for i := range 256 {
		a := byte(i)
		if empty.Box(a) != 0 || empty.Back(a) != 0 || empty.Mix(a) != 0 {
			t.Fatalf("%x: %x %x %x", a, empty.Box(a), empty.Back(a), empty.Mix(a))
		}
	}
}

// P5.2, R4: boxes don't hang on each other: what becomes of one isn't seen in
// another, made ahead of it or behind it.
func TestBoxesApart(t *testing.T) {
	one, other := New(), New()
	if one == nil || other == nil || one == other {
		t.Fatal("New made no boxes, or the same ones twice")
	}
	if *one != *other {
		t.Fatal("New made two kinds of boxes")
	}
	*one = Boxes{}
	later := New()
	for i := range 256 {
		a := byte(i)
		if one.Box(a) != 0 || other.Box(a) != box(a) || later.Box(a) != box(a) {
			t.Fatalf("the boxes of %x: %x %x %x", a, one.Box(a), other.Box(a), later.Box(a))
		}
		if other.Back(box(a)) != a || later.Back(box(a)) != a {
			t.Fatalf("the back boxes of %x", box(a))
		}
		if other.Mix(a) != later.Mix(a) || byte(other.Mix(a)>>8) != box(a) {
			t.Fatalf("the columns of %x", a)
		}
	}
}

// P5.2, R5: to ask boxes changes nothing of them.
func TestAskingChangesNothing(t *testing.T) {
	x := New()
	was := *x
	for i := range 256 {
		x.Box(byte(i))
		x.Back(byte(i))
		x.Mix(byte(i))
	}
	if *x != was {
		t.Fatal("boxes changed by being asked")
	}
}

// Ways: tables stand in arrays that the constructor fills, none of them at
// package level.
func TestNoTableAtPackageLevel(t *testing.T) {
	file, err := parser.ParseFile(token.NewFileSet(), "field.go", nil, 0)
	if err != nil {
		t.Fatal(err)
	}
	for _, d := range file.Decls {
		if g, ok := d.(*ast.GenDecl); ok && g.Tok == token.VAR {
			t.Error("a variable stands at package level")
		}
		if f, ok := d.(*ast.FuncDecl); ok && f.Name.Name == "init" {
			t.Error("a table may be filled at start-up")
		}
	}
}

// FuzzPower holds any power against the one of n modulo 255, and any product
// against the document's word for it.
func FuzzPower(f *testing.F) {
	f.Add(byte(2), byte(8), 8)
	f.Add(byte(0), byte(0), 0)
	f.Add(byte(255), byte(1), math.MaxInt)
	f.Add(byte(7), byte(3), math.MinInt)
	f.Fuzz(func(t *testing.T, a, b byte, n int) {
		if Times(a, b) != product(a, b) {
			t.Fatal(a, b)
		}
		want := byte(1)
		switch {
		case n < 1:
		case a == 0:
			want = 0
		default:
			for range n % 255 {
				want = product(want, a)
			}
		}
		if Power(a, n) != want {
			t.Fatal(a, n)
		}
	})
}
