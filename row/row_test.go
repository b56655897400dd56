package row

import (
	"bytes"
	"encoding/binary"
	"math"
	"slices"
	"testing"

	"thimble/api"
)

// wrongSizes are sizes that no number has.
var wrongSizes = []int{math.MinInt, -256, -8, -1, 0, 9, 16, 64, 256, 257, math.MaxInt}

// numbers has the edges of each size, and numbers from a fixed row.
func numbers() []uint64 {
	l := []uint64{0, 1, 2, 258, 0x0102030405060708, 0xf1f2f3f4f5f6f7f8, math.MaxUint64, math.MaxUint64 - 1}
	for size := 1; size < 8; size++ {
		edge := uint64(1) << (8 * size)
		l = append(l, edge-1, edge, edge+1, edge>>1, edge|edge>>8)
	}
	n := uint64(1)
	for range 500 {
		n = n*6364136223846793005 + 1442695040888963407
		l = append(l, n, n>>(n&63))
	}
	return l
}

// fits tells whether n has room in size bytes, by its own way.
func fits(n uint64, size int) bool {
	for range size {
		n /= 256
	}
	return n == 0
}

// asBytes is n in size bytes by the library's own writing.
func asBytes(n uint64, size int) []byte {
	return binary.BigEndian.AppendUint64(nil, n)[8-size:]
}

// P2.1: n in size bytes behind b, if there is room for it.
func TestPut(t *testing.T) {
	for _, b := range [][]byte{nil, {}, {9}, {0, 255, 7}, bytes.Repeat([]byte{5}, 1000)} {
		for size := 1; size <= 8; size++ {
			for _, n := range numbers() {
				got, e := Put(b, n, size)
				if !fits(n, size) {
					if e != api.ErrArg || len(got) != 0 {
						t.Fatalf("Put(%d bytes, %d, %d) = %x, %d: it has no room", len(b), n, size, got, e)
					}
					continue
				}
				want := append(slices.Clone(b), asBytes(n, size)...)
				if e != api.OK || !bytes.Equal(got, want) {
					t.Fatalf("Put(%d bytes, %d, %d) = %x, %d, not %x", len(b), n, size, got, e, want)
				}
			}
		}
	}
}

// P2.1: the document's examples.
func TestPutExamples(t *testing.T) {
	if b, e := Put(nil, 258, 2); e != api.OK || !bytes.Equal(b, []byte{1, 2}) {
		t.Error(b, e)
	}
	if b, e := Put(nil, 256, 1); e != api.ErrArg || b != nil {
		t.Error(b, e)
	}
}

// P2.1: sizes that are none.
func TestPutWrongSize(t *testing.T) {
	for _, size := range wrongSizes {
		for _, n := range []uint64{0, 1, math.MaxUint64} {
			for _, b := range [][]byte{nil, {1, 2}} {
				if got, e := Put(b, n, size); e != api.ErrArg || got != nil {
					t.Errorf("Put(%x, %d, %d) = %x, %d", b, n, size, got, e)
				}
			}
		}
	}
}

// P2.1, R4: the answer is new memory; b and the room behind it stay.
func TestPutNewMemory(t *testing.T) {
	whole := []byte{1, 2, 3, 4, 5, 6, 7, 8, 9, 10, 11, 12}
	kept := slices.Clone(whole)
	for _, n := range []int{0, 1, 3} {
		b := whole[:n]
		first, _ := Put(b, 0xaabb, 2)
		second, _ := Put(b, 0xccdd, 2)
		if !bytes.Equal(whole, kept) {
			t.Fatalf("Put changed what it was handed: %x", whole)
		}
		if !bytes.Equal(first[n:], []byte{0xaa, 0xbb}) || !bytes.Equal(second[n:], []byte{0xcc, 0xdd}) {
			t.Fatalf("two answers share memory: %x %x", first, second)
		}
		for i := range first {
			first[i] ^= 255
		}
		if !bytes.Equal(whole, kept) || !bytes.Equal(second[:n], kept[:n]) {
			t.Fatalf("the answer shares memory: %x, %x", whole, second)
		}
		Put(b, 1<<16, 2)
		Put(b, 1, 0)
		if !bytes.Equal(whole, kept) {
			t.Fatalf("a Put that is refused changed what it was handed: %x", whole)
		}
	}
}

// P2.2: numbers and bytes, one behind the other, and how many are left.
func TestReader(t *testing.T) {
	for _, n := range numbers() {
		for size := 1; size <= 8; size++ {
			if !fits(n, size) {
				continue
			}
			r := New(slices.Concat([]byte{0xfe, 0xff}, asBytes(n, size), []byte{0xfd}))
			if b := r.Take(2); !bytes.Equal(b, []byte{0xfe, 0xff}) || r.Left() != size+1 {
				t.Fatalf("Take(2) = %x, left %d of %d", b, r.Left(), size+1)
			}
			if got := r.Num(size); got != n || r.Left() != 1 {
				t.Fatalf("Num(%d) = %d, not %d; left %d", size, got, n, r.Left())
			}
			if r.Fault() != api.OK || r.End() != api.ErrLong {
				t.Fatal(r.Fault(), r.End())
			}
			if got := r.Num(1); got != 0xfd || r.Left() != 0 || r.Fault() != api.OK || r.End() != api.OK {
				t.Fatal(got, r.Left(), r.Fault(), r.End())
			}
		}
	}
}

// P2.2: what Put wrote is read again.
func TestReadAgain(t *testing.T) {
	var b []byte
	for i, n := range numbers() {
		size := i%8 + 1
		if fits(n, size) {
			b, _ = Put(b, n, size)
		}
	}
	r := New(b)
	for i, n := range numbers() {
		size := i%8 + 1
		if !fits(n, size) {
			continue
		}
		if got := r.Num(size); got != n {
			t.Fatalf("Num(%d) = %d, not %d", size, got, n)
		}
	}
	if r.End() != api.OK {
		t.Fatal(r.End())
	}
}

// P2.2: edges of Take: nothing at all, and all there is.
func TestTakeEdges(t *testing.T) {
	for _, b := range [][]byte{nil, {}, {1}, {1, 2, 3}} {
		r := New(b)
		if got := r.Take(0); len(got) != 0 || r.Left() != len(b) || r.Fault() != api.OK {
			t.Fatal(got, r.Left(), r.Fault())
		}
		if got := r.Take(len(b)); !bytes.Equal(got, b) || r.Left() != 0 || r.End() != api.OK {
			t.Fatal(got, r.Left(), r.End())
		}
		if got := r.Take(0); len(got) != 0 || r.End() != api.OK {
			t.Fatal(got, r.End())
		}
	}
}

// P2.2, R4: a reader keeps values, not memory, and hands out new memory.
func TestReaderMemory(t *testing.T) {
	whole := []byte{1, 2, 3, 4, 5, 6}
	b := whole[:4]
	r, twin := New(b), New(b)
	first := r.Take(2)
	for i := range first {
		first[i] = 99
	}
	_ = append(first, 98, 98, 98, 98)
	if !bytes.Equal(whole, []byte{1, 2, 3, 4, 5, 6}) {
		t.Fatalf("the answer shares memory with what was handed in: %x", whole)
	}
	for i := range whole {
		whole[i] = 77
	}
	if n := r.Num(2); n != 0x0304 {
		t.Fatalf("the reader shares memory: %x", n)
	}
	if got := twin.Take(4); !bytes.Equal(got, []byte{1, 2, 3, 4}) || twin.End() != api.OK {
		t.Fatalf("the twin reads %x, End %d: the room behind b is none of it", got, twin.End())
	}
}

// afterFault holds that the reader's fault is want and stays so, whatever is asked for.
func afterFault(t *testing.T, r *Reader, want api.Errno) {
	t.Helper()
	for range 2 {
		if r.Fault() != want || r.End() != want || r.Left() != 0 {
			t.Fatalf("Fault %d, End %d, Left %d, not %d", r.Fault(), r.End(), r.Left(), want)
		}
		for _, n := range append([]int{1, 2, 8}, wrongSizes...) {
			if got := r.Num(n); got != 0 {
				t.Fatalf("Num(%d) = %d behind a fault", n, got)
			}
			if got := r.Take(n); len(got) != 0 {
				t.Fatalf("Take(%d) = %x behind a fault", n, got)
			}
		}
	}
}

// P2.3: ErrArg, ahead of ErrShort.
func TestFaultArg(t *testing.T) {
	for _, b := range [][]byte{nil, {1}, {1, 2, 3}, bytes.Repeat([]byte{7}, 300)} {
		for _, size := range wrongSizes {
			r := New(b)
			if n := r.Num(size); n != 0 {
				t.Fatalf("Num(%d) = %d", size, n)
			}
			afterFault(t, r, api.ErrArg)
			if size >= 0 {
				continue
			}
			r = New(b)
			if got := r.Take(size); len(got) != 0 {
				t.Fatalf("Take(%d) = %x", size, got)
			}
			afterFault(t, r, api.ErrArg)
		}
	}
}

// P2.3: ErrShort, if fewer bytes are left than are asked for, and no byte is told of those.
func TestFaultShort(t *testing.T) {
	full := []byte{255, 254, 253, 252, 251, 250, 249, 248, 247}
	for have := range len(full) {
		for want := have + 1; want <= 8; want++ {
			r := New(full[:have])
			if n := r.Num(want); n != 0 {
				t.Fatalf("Num(%d) of %d bytes = %d", want, have, n)
			}
			afterFault(t, r, api.ErrShort)
		}
		for _, want := range []int{have + 1, have + 2, 100, math.MaxInt} {
			r := New(full[:have])
			if b := r.Take(want); len(b) != 0 {
				t.Fatalf("Take(%d) of %d bytes = %x", want, have, b)
			}
			afterFault(t, r, api.ErrShort)
		}
	}
}

// P2.3: the document's example, and that the first fault stays where another one follows.
func TestFaultExample(t *testing.T) {
	r := New([]byte{1, 2, 3})
	if n := r.Num(2); n != 258 {
		t.Fatal(n)
	}
	if n := r.Num(2); n != 0 {
		t.Fatal(n)
	}
	afterFault(t, r, api.ErrShort)
	r = New([]byte{1, 2, 3})
	if b := r.Take(-1); len(b) != 0 {
		t.Fatal(b)
	}
	r.Take(4)
	afterFault(t, r, api.ErrArg)
}

// P2.3: bytes that are left are no fault: End may be asked, and reading goes on.
func TestEndIsNoFault(t *testing.T) {
	r := New([]byte{1, 2})
	for want := uint64(1); want <= 2; want++ {
		if r.End() != api.ErrLong || r.Fault() != api.OK {
			t.Fatal(r.End(), r.Fault())
		}
		if n := r.Num(1); n != want {
			t.Fatalf("Num(1) = %d, not %d", n, want)
		}
	}
	if r.End() != api.OK || r.Fault() != api.OK || New(nil).End() != api.OK {
		t.Fatal(r.End(), r.Fault())
	}
	r.Num(1)
	afterFault(t, r, api.ErrShort)
}

// P2.3: a nil reader.
func TestNilReader(t *testing.T) {
	var r *Reader
	afterFault(t, r, api.ErrNone)
}

// P2.3: readers have nothing to do with each other.
func TestReadersApart(t *testing.T) {
	b := []byte{1, 2, 3, 4}
	r, other := New(b), New(b)
	r.Num(9)
	if n := other.Num(4); n != 0x01020304 || other.End() != api.OK {
		t.Fatal(n, other.End())
	}
}
