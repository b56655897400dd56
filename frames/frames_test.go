package frames

import (
	"bytes"
	"fmt"
	"math"
	"math/rand"
	"slices"
	"testing"

	"thimble/api"
)

var (
	none  = math.NaN()
	high  = math.Inf(1)
	low   = math.Inf(-1)
	minus = math.Copysign(0, -1)
	least = math.SmallestNonzeroFloat64
)

// edges are numbers that anybody may hand in as a weight, no number in many forms.
func edges() []float64 {
	l := []float64{none, high, low, 0, minus, least, -least, 3 * least, math.Ldexp(1, -1022), 1, -1, 0.1, 1e300, -1e300, math.MaxFloat64, -math.MaxFloat64}
	for _, b := range []uint64{0x7ff0000000000001, 0x7fffffffffffffff, 0xfff0000000000001, 0xfff8000000000000, 0xffffffffffffffff} {
		l = append(l, math.Float64frombits(b))
	}
	return l
}

// numbers are keys and tasks at the ends of their numbers, and near to nought.
func numbers() []int {
	return []int{math.MinInt, math.MinInt + 1, math.MinInt32, -2, -1, 0, 1, 2, math.MaxInt32, math.MaxInt - 1, math.MaxInt}
}

func made(t testing.TB, frames int) *Table {
	t.Helper()
	f, e := New(frames)
	if f == nil || e != api.OK {
		t.Fatalf("New(%d): %v, %d", frames, f, e)
	}
	return f
}

// full is a table all of whose frames are taken, by these keys, all clean.
func full(t testing.TB, keys ...int) *Table {
	t.Helper()
	f := made(t, len(keys))
	for _, key := range keys {
		answers(t, "Put", f.Put(key, []byte{byte(key)}, false), api.OK)
	}
	return f
}

func answers(t testing.TB, what string, got, want api.Errno) {
	t.Helper()
	if got != want {
		t.Fatalf("%s: %d, not %d", what, got, want)
	}
}

func gets(t testing.TB, f *Table, key int, want []byte) {
	t.Helper()
	if b, e := f.Get(key); e != api.OK || !bytes.Equal(b, want) {
		t.Fatalf("Get(%d) = %x, %d, not %x", key, b, e, want)
	}
}

func getsNone(t testing.TB, f *Table, key int) {
	t.Helper()
	if b, e := f.Get(key); e != api.ErrNone || b != nil {
		t.Fatalf("Get(%d) = %x, %d, not ErrNone", key, b, e)
	}
}

// victim asks twice, as asking changes nothing.
func victim(t testing.TB, f *Table, want int) {
	t.Helper()
	for range 2 {
		if key, e := f.Victim(); key != want || e != api.OK {
			t.Fatalf("Victim() = %d, %d, not %d", key, e, want)
		}
	}
}

func noVictim(t testing.TB, f *Table, want api.Errno) {
	t.Helper()
	for range 2 {
		if key, e := f.Victim(); key != 0 || e != want {
			t.Fatalf("Victim() = %d, %d, not 0, %d", key, e, want)
		}
	}
}

func keys(t testing.TB, f *Table, want ...int) {
	t.Helper()
	if got := f.Keys(); !slices.Equal(got, want) {
		t.Fatalf("Keys() = %v, not %v", got, want)
	}
}

func left(t testing.TB, f *Table, want int) {
	t.Helper()
	if got := f.Left(); got != want {
		t.Fatalf("Left() = %d, not %d", got, want)
	}
}

func written(t testing.TB, f *Table, key int, want bool) {
	t.Helper()
	if got := f.Written(key); got != want {
		t.Fatalf("Written(%d) = %v", key, got)
	}
}

func pinned(t testing.TB, f *Table, key int, want bool) {
	t.Helper()
	if got := f.Pinned(key); got != want {
		t.Fatalf("Pinned(%d) = %v", key, got)
	}
}

// The chapter's examples.
func TestExamples(t *testing.T) {
	f := made(t, 2)
	answers(t, "Put", f.Put(5, []byte("a"), false), api.OK)
	answers(t, "Put", f.Put(6, []byte("b"), true), api.OK)
	gets(t, f, 5, []byte("a"))
	victim(t, f, 6)
	answers(t, "Pin", f.Pin(1, 6), api.OK)
	victim(t, f, 5)
	answers(t, "Pin", f.Pin(1, 5), api.OK)
	noVictim(t, f, api.ErrFrames)
	f.Free(1)
	answers(t, "Drop", f.Drop(5), api.OK)
	noVictim(t, f, api.ErrNone)
}

// P13.1: how many frames there may be; all of them are empty, and all are there.
func TestNew(t *testing.T) {
	for _, n := range []int{1, 2, 3, 16, 1000, 1023, api.MaxFrames} {
		f := made(t, n)
		left(t, f, n)
		keys(t, f)
		noVictim(t, f, api.ErrNone)
		for _, key := range numbers() {
			getsNone(t, f, key)
			written(t, f, key, false)
			pinned(t, f, key, false)
		}
		for key := range n {
			noVictim(t, f, api.ErrNone)
			answers(t, "Put", f.Put(key, nil, false), api.OK)
		}
		answers(t, "Put", f.Put(n, nil, false), api.ErrFull)
		victim(t, f, 0)
	}
	for _, n := range []int{0, -1, -1024, math.MinInt, math.MinInt32, api.MaxFrames + 1, 65536, math.MaxInt32, math.MaxInt} {
		if f, e := New(n); f != nil || e != api.ErrArg {
			t.Errorf("New(%d): %v, %d", n, f, e)
		}
	}
}

// P13.1: what is reserved is no longer left, up to the last frame.
func TestReserve(t *testing.T) {
	f := made(t, 5)
	answers(t, "Reserve", f.Reserve(1, 6), api.ErrFrames)
	answers(t, "Reserve", f.Reserve(1, math.MaxInt), api.ErrFrames)
	left(t, f, 5)
	answers(t, "Reserve", f.Reserve(1, 3), api.OK)
	left(t, f, 2)
	answers(t, "Reserve", f.Reserve(2, 3), api.ErrFrames)
	left(t, f, 2)
	answers(t, "Reserve", f.Reserve(2, 2), api.OK) // one that was refused may ask again
	left(t, f, 0)
	answers(t, "Reserve", f.Reserve(3, 1), api.ErrFrames)
	f.Free(3) // it has nothing
	left(t, f, 0)
	f.Free(1)
	left(t, f, 3)
	f.Free(1)
	left(t, f, 3)
	answers(t, "Reserve", f.Reserve(3, 1), api.OK)
	answers(t, "Reserve", f.Reserve(1, 2), api.OK)
	left(t, f, 0)
	f.Free(2)
	f.Free(3)
	f.Free(1)
	left(t, f, 5)
	answers(t, "Reserve", f.Reserve(9, 5), api.OK)
	left(t, f, 0)
}

// P13.1, R2: ErrArg is ahead of ErrBusy, and that is ahead of ErrFrames.
func TestReserveErrors(t *testing.T) {
	f := made(t, 4)
	for _, n := range []int{0, -1, -5, math.MinInt} {
		answers(t, "Reserve", f.Reserve(1, n), api.ErrArg)
	}
	answers(t, "Reserve", f.Reserve(1, 4), api.OK)
	for _, n := range []int{0, -1, math.MinInt} {
		answers(t, "Reserve", f.Reserve(1, n), api.ErrArg)
		answers(t, "Reserve", f.Reserve(2, n), api.ErrArg)
	}
	for _, n := range []int{1, 4, 5, math.MaxInt} {
		answers(t, "Reserve", f.Reserve(1, n), api.ErrBusy)
		answers(t, "Reserve", f.Reserve(2, n), api.ErrFrames)
	}
	left(t, f, 0)
	f.Free(1)
	left(t, f, 4)
	answers(t, "Reserve", f.Reserve(1, 1), api.OK)
	answers(t, "Reserve", f.Reserve(1, 3), api.ErrBusy)
	left(t, f, 3)
}

// P13.1: tasks of all numbers are apart.
func TestReserveTasks(t *testing.T) {
	f := made(t, api.MaxFrames)
	for i, task := range numbers() {
		answers(t, "Reserve", f.Reserve(task, i+1), api.OK)
	}
	rest := api.MaxFrames - 66
	left(t, f, rest)
	for i, task := range numbers() {
		answers(t, "Reserve", f.Reserve(task, 1), api.ErrBusy)
		f.Free(task)
		rest += i + 1
		left(t, f, rest)
	}
}

// P13.1: frames are reserved by count: what is in them plays no part, and who
// has reserved none may put and pin.
func TestReserveIsApartFromKeys(t *testing.T) {
	f := made(t, 2)
	answers(t, "Reserve", f.Reserve(1, 2), api.OK)
	answers(t, "Put", f.Put(5, nil, false), api.OK)
	answers(t, "Put", f.Put(6, nil, true), api.OK)
	left(t, f, 0)
	answers(t, "Pin", f.Pin(2, 5), api.OK)
	answers(t, "Drop", f.Drop(6), api.OK)
	left(t, f, 0)
	f.Free(1)
	left(t, f, 2)
	pinned(t, f, 5, true)
	keys(t, f, 5)
	f = full(t, 1, 2, 3)
	left(t, f, 3)
	answers(t, "Pin", f.Pin(7, 1), api.OK)
	left(t, f, 3)
	answers(t, "Reserve", f.Reserve(7, 3), api.OK) // a pin is no reservation
}

// P13.1: Free takes the task's pins alone, all of them, and leaves the frames.
func TestFree(t *testing.T) {
	f := full(t, 1, 2, 3, 4)
	for _, p := range []struct{ task, key int }{{1, 1}, {1, 2}, {2, 2}, {2, 3}, {1, 4}} {
		answers(t, "Pin", f.Pin(p.task, p.key), api.OK)
	}
	noVictim(t, f, api.ErrFrames)
	f.Free(3)
	f.Free(4) // a key's number is no task's
	noVictim(t, f, api.ErrFrames)
	f.Free(1)
	for key, want := range []bool{1: false, 2: true, 3: true, 4: false} {
		pinned(t, f, key, want)
	}
	victim(t, f, 1)
	f.Free(1)
	answers(t, "Drop", f.Drop(2), api.ErrBusy)
	f.Free(2)
	for key := 1; key <= 4; key++ {
		pinned(t, f, key, false)
		answers(t, "Drop", f.Drop(key), api.OK)
	}
	keys(t, f)
}

// P13.1, P13.2: a task pins a key once, however often it asks; so one Free is
// enough, and no Free of it takes another task's pin.
func TestPinTwice(t *testing.T) {
	f := full(t, 7)
	for range 3 {
		answers(t, "Pin", f.Pin(1, 7), api.OK)
	}
	answers(t, "Pin", f.Pin(2, 7), api.OK)
	f.Free(1)
	pinned(t, f, 7, true)
	f.Free(1)
	pinned(t, f, 7, true)
	answers(t, "Pin", f.Pin(1, 7), api.OK)
	f.Free(2)
	pinned(t, f, 7, true)
	f.Free(1)
	pinned(t, f, 7, false)
	victim(t, f, 7)
}

// P13.2: pins of all tasks and keys are apart, a task from a key too.
func TestPinsApart(t *testing.T) {
	f := full(t, numbers()...)
	for _, key := range numbers() {
		for _, task := range numbers() {
			answers(t, "Pin", f.Pin(task, key), api.OK)
			for _, other := range numbers() {
				if other != task {
					f.Free(other)
				}
				pinned(t, f, other, other == key)
			}
			pinned(t, f, key, true)
			f.Free(task)
			pinned(t, f, key, false)
		}
	}
}

// P13.2: a frame that has the key has the bytes then, or an empty one has.
func TestPut(t *testing.T) {
	f := made(t, 2)
	answers(t, "Put", f.Put(5, []byte("one"), false), api.OK)
	gets(t, f, 5, []byte("one"))
	answers(t, "Put", f.Put(5, []byte("longer than one"), false), api.OK)
	gets(t, f, 5, []byte("longer than one"))
	keys(t, f, 5)
	answers(t, "Put", f.Put(6, nil, false), api.OK)
	gets(t, f, 6, nil)
	for range 2 {
		answers(t, "Put", f.Put(7, []byte("x"), true), api.ErrFull)
	}
	getsNone(t, f, 7)
	written(t, f, 7, false)
	keys(t, f, 5, 6)
	answers(t, "Put", f.Put(6, []byte("six"), false), api.OK) // all are taken, but it has one
	answers(t, "Put", f.Put(5, []byte{}, false), api.OK)
	gets(t, f, 6, []byte("six"))
	gets(t, f, 5, nil)
	answers(t, "Drop", f.Drop(5), api.OK)
	answers(t, "Put", f.Put(7, []byte("x"), false), api.OK)
	gets(t, f, 7, []byte("x"))
	getsNone(t, f, 5)
	answers(t, "Put", f.Put(5, nil, false), api.ErrFull)
	keys(t, f, 6, 7)
}

// P13.2: bytes of any number, each of its kind.
func TestPutLengths(t *testing.T) {
	f := made(t, 1)
	for _, n := range []int{0, 1, 2, api.Page - 1, api.Page, api.Page + 1, api.Block - 1, api.Block, api.Block + 1, 65537} {
		b := make([]byte, n)
		for i := range b {
			b[i] = byte(i*7 + n)
		}
		answers(t, "Put", f.Put(-1, b, false), api.OK)
		gets(t, f, -1, b)
		gets(t, f, -1, b)
	}
}

// P13.2: a frame is written from a written Put on, till it is clean or empty.
func TestWritten(t *testing.T) {
	f := made(t, 2)
	answers(t, "Put", f.Put(1, nil, false), api.OK)
	written(t, f, 1, false)
	answers(t, "Put", f.Put(1, nil, false), api.OK)
	written(t, f, 1, false)
	answers(t, "Put", f.Put(1, nil, true), api.OK)
	written(t, f, 1, true)
	answers(t, "Put", f.Put(1, []byte{1}, false), api.OK)
	written(t, f, 1, true)
	answers(t, "Put", f.Put(1, []byte{2}, true), api.OK)
	written(t, f, 1, true)
	answers(t, "Put", f.Put(2, nil, true), api.OK)
	answers(t, "Clean", f.Clean(1), api.OK)
	written(t, f, 1, false)
	written(t, f, 2, true)
	gets(t, f, 1, []byte{2}) // clean, it has its bytes still
	answers(t, "Clean", f.Clean(1), api.OK)
	written(t, f, 1, false)
	answers(t, "Put", f.Put(1, nil, true), api.OK)
	written(t, f, 1, true)
	answers(t, "Drop", f.Drop(1), api.OK) // a written frame may be emptied
	written(t, f, 1, false)
	answers(t, "Put", f.Put(1, nil, false), api.OK)
	written(t, f, 1, false) // of what it was ahead nothing is left
	written(t, f, 3, false)
}

// P13.2: a pinned frame may be put into and cleaned, and is no less pinned.
func TestPinnedIsInUse(t *testing.T) {
	f := full(t, 1)
	answers(t, "Pin", f.Pin(1, 1), api.OK)
	answers(t, "Put", f.Put(1, []byte("new"), true), api.OK)
	pinned(t, f, 1, true)
	gets(t, f, 1, []byte("new"))
	answers(t, "Clean", f.Clean(1), api.OK)
	pinned(t, f, 1, true)
	f.Warm(1, low)
	answers(t, "Drop", f.Drop(1), api.ErrBusy)
	pinned(t, f, 1, true)
	gets(t, f, 1, []byte("new"))
	f.Free(1)
	answers(t, "Drop", f.Drop(1), api.OK)
	pinned(t, f, 1, false)
	answers(t, "Put", f.Put(1, nil, false), api.OK)
	pinned(t, f, 1, false)
}

// P13.2: of keys in no frame, never put or dropped since; ErrNone is ahead of
// ErrBusy, as what is in no frame is pinned by nobody.
func TestInNoFrame(t *testing.T) {
	f := made(t, 2)
	answers(t, "Put", f.Put(100, nil, true), api.OK)
	answers(t, "Put", f.Put(5, nil, true), api.OK)
	answers(t, "Drop", f.Drop(5), api.OK)
	for _, key := range append(numbers(), 5) {
		getsNone(t, f, key)
		answers(t, "Clean", f.Clean(key), api.ErrNone)
		answers(t, "Pin", f.Pin(1, key), api.ErrNone)
		answers(t, "Drop", f.Drop(key), api.ErrNone)
		pinned(t, f, key, false)
		written(t, f, key, false)
		answers(t, "Put", f.Put(key, nil, false), api.OK)
		pinned(t, f, key, false) // a Pin that was refused pins nothing that comes later
		written(t, f, key, false)
		answers(t, "Drop", f.Drop(key), api.OK)
	}
	written(t, f, 100, true)
	keys(t, f, 100)
}

// P13.2: all keys, rising, however they came and went.
func TestKeys(t *testing.T) {
	f := made(t, api.MaxFrames)
	var want []int
	for _, i := range rand.New(rand.NewSource(1)).Perm(api.MaxFrames) {
		key := i*3 - 1000
		answers(t, "Put", f.Put(key, nil, i%2 == 0), api.OK)
		want = append(want, key)
		slices.Sort(want)
		keys(t, f, want...)
	}
	for len(want) > 0 {
		at := len(want) * 5 / 7
		answers(t, "Drop", f.Drop(want[at]), api.OK)
		want = slices.Delete(want, at, at+1)
		keys(t, f, want...)
	}
	f = full(t, math.MaxInt, 0, math.MinInt, -1)
	keys(t, f, math.MinInt, -1, 0, math.MaxInt)
}

// P13.2: Get touches by 1, which adds up, and is like a Warm by 1.
func TestGetTouches(t *testing.T) {
	f := full(t, 1, 2, 3)
	victim(t, f, 1) // none was used: the least
	gets(t, f, 1, []byte{1})
	victim(t, f, 2)
	gets(t, f, 2, []byte{2})
	victim(t, f, 3)
	gets(t, f, 3, []byte{3})
	victim(t, f, 1)
	gets(t, f, 1, []byte{1})
	victim(t, f, 2)
	f.Warm(2, 0.5)
	f.Warm(3, 0.25)
	victim(t, f, 3)
	f.Warm(3, 0.25)
	victim(t, f, 2)
	f.Warm(3, 0.25)
	f.Warm(2, 0.5) // 2, 2 and 1.75
	victim(t, f, 3)
	f.Warm(3, 0.25)
	victim(t, f, 1)
}

// half16 puts 8 (of the heat 1, told at the time 1) and 9 (of the heat 0.75, told
// at the time 16) into frames, and 0, that is pinned.
func half16(t testing.TB, touch func(f *Table)) *Table {
	f := full(t, 0, 8, 9)
	answers(t, "Pin", f.Pin(1, 0), api.OK)
	touch(f)
	for range 14 {
		f.Warm(0, 5)
	}
	f.Warm(9, 0.75)
	return f
}

// P13.2: a heat halves in 16 touches, and in no fewer; no other call is one.
func TestHalf(t *testing.T) {
	for name, touch := range map[string]func(f *Table){
		"Get":  func(f *Table) { f.Get(8) },
		"Warm": func(f *Table) { f.Warm(8, 1) },
	} {
		t.Run(name, func(t *testing.T) {
			f := half16(t, touch)
			victim(t, f, 9) // 15 touches since
			for range 40 {
				getsNone(t, f, 77)
				f.Warm(77, 1)
				f.Warm(77, high)
				answers(t, "Put", f.Put(8, nil, true), api.OK)
				answers(t, "Put", f.Put(77, nil, true), api.ErrFull)
				answers(t, "Clean", f.Clean(8), api.OK)
				answers(t, "Clean", f.Clean(77), api.ErrNone)
				answers(t, "Pin", f.Pin(1, 0), api.OK)
				answers(t, "Pin", f.Pin(1, 77), api.ErrNone)
				answers(t, "Drop", f.Drop(0), api.ErrBusy)
				answers(t, "Drop", f.Drop(77), api.ErrNone)
				answers(t, "Reserve", f.Reserve(5, 1), api.OK)
				f.Free(5)
				keys(t, f, 0, 8, 9)
				written(t, f, 8, false)
				pinned(t, f, 8, false)
				left(t, f, 3)
				victim(t, f, 9)
			}
			gets(t, f, 0, []byte{0}) // the 16th
			victim(t, f, 8)          // 0.5 and 0.75
			for range 15 {
				victim(t, f, 8)
				f.Warm(0, -3)
			}
			victim(t, f, 9) // 0.5 and 0.375
			f.Warm(0, none)
			victim(t, f, 8) // 0.25 and 0.375
		})
	}
}

// P13.2: a Drop is no touch, and takes the heat of its key away, whatever that was.
func TestDropCools(t *testing.T) {
	for _, by := range edges() {
		f := full(t, 1, 2, 3)
		f.Warm(3, by)
		f.Warm(1, 1)
		f.Warm(2, -1)
		answers(t, "Drop", f.Drop(3), api.OK)
		f.Warm(3, by) // in no frame, it isn't touched
		answers(t, "Put", f.Put(3, nil, false), api.OK)
		answers(t, "Pin", f.Pin(1, 2), api.OK)
		victim(t, f, 3) // 1 and 0
		f.Free(1)
		victim(t, f, 2) // -1 and 0
		f.Warm(3, 5)
		f.Warm(2, 7)
		victim(t, f, 1) // 1, 6 and 5
	}
	f := half16(t, func(f *Table) { f.Get(8) })
	f.Free(1)
	for range 40 {
		answers(t, "Drop", f.Drop(0), api.OK)
		answers(t, "Put", f.Put(0, nil, false), api.OK)
	}
	answers(t, "Pin", f.Pin(1, 0), api.OK)
	victim(t, f, 9) // 1 and 0.75 still
}

// P13.2: a Put into a frame that has the key leaves its heat.
func TestPutLeavesTheHeat(t *testing.T) {
	f := full(t, 1, 2)
	f.Warm(1, 3)
	f.Warm(2, 2)
	for range 30 {
		answers(t, "Put", f.Put(1, []byte("x"), true), api.OK)
		victim(t, f, 2)
	}
	f.Warm(2, 2)
	victim(t, f, 1)
}

// P13.2: weights of all kinds: no number takes the heat away.
func TestWarm(t *testing.T) {
	f := full(t, 1, 2, 3, 4, 5)
	f.Warm(1, 4)
	f.Warm(2, 3)
	f.Warm(3, high)
	f.Warm(4, low)
	f.Warm(5, -1)
	for _, want := range []int{4, 5, 2, 1, 3} {
		victim(t, f, want)
		answers(t, "Pin", f.Pin(1, want), api.OK)
	}
	noVictim(t, f, api.ErrFrames)
	f.Free(1)
	f.Warm(4, high) // no number: +0
	victim(t, f, 5)
	f.Warm(5, minus)
	victim(t, f, 5)
	f.Warm(5, none)
	victim(t, f, 4) // both +0
	f.Warm(1, none)
	victim(t, f, 1)
	for _, by := range edges() {
		f := full(t, 1, 2)
		f.Warm(2, by)
		if by < 0 {
			victim(t, f, 2)
		} else {
			victim(t, f, 1)
		}
	}
}

// P13.3: of those that are as cold, and that nobody has pinned, the least.
func TestVictim(t *testing.T) {
	f := full(t, numbers()...)
	for _, want := range numbers() {
		victim(t, f, want)
		answers(t, "Pin", f.Pin(1, want), api.OK)
	}
	noVictim(t, f, api.ErrFrames)
	answers(t, "Pin", f.Pin(2, 0), api.OK)
	f.Free(1)
	for _, want := range numbers() {
		if want != 0 {
			victim(t, f, want)
			f.Warm(want, 1)
		}
	}
	victim(t, f, math.MinInt)
	f.Free(2)
	victim(t, f, 0) // the coldest while it was pinned, too
}

// P13.3, R2: as long as a frame is empty it is ErrNone, even if all keys that
// there are are pinned; a written frame may be told.
func TestVictimErrors(t *testing.T) {
	f := made(t, 2)
	noVictim(t, f, api.ErrNone)
	answers(t, "Put", f.Put(5, nil, true), api.OK)
	noVictim(t, f, api.ErrNone)
	answers(t, "Pin", f.Pin(1, 5), api.OK)
	noVictim(t, f, api.ErrNone)
	answers(t, "Put", f.Put(6, nil, true), api.OK)
	victim(t, f, 6)
	answers(t, "Pin", f.Pin(2, 6), api.OK)
	noVictim(t, f, api.ErrFrames)
	f.Free(1)
	victim(t, f, 5)
	answers(t, "Drop", f.Drop(5), api.OK)
	noVictim(t, f, api.ErrNone)
	answers(t, "Put", f.Put(6, nil, false), api.OK) // it takes no second frame
	noVictim(t, f, api.ErrNone)
}

// P13.3: who is told goes, and another takes its frame, over and over.
func TestTurnover(t *testing.T) {
	f := full(t, 0, 1, 2, 3)
	for key := 4; key < 200; key++ {
		want := f.Keys()[0] // all are cold
		victim(t, f, want)
		answers(t, "Put", f.Put(key, nil, false), api.ErrFull)
		answers(t, "Drop", f.Drop(want), api.OK)
		answers(t, "Put", f.Put(key, []byte{byte(key)}, false), api.OK)
		keys(t, f, key-3, key-2, key-1, key)
	}
}

// P13.4, R1: each call of a nil table, with arguments of all kinds.
func TestNil(t *testing.T) {
	var f *Table
	for _, x := range numbers() {
		for _, y := range numbers() {
			answers(t, "Reserve", f.Reserve(x, y), api.ErrNone)
			answers(t, "Pin", f.Pin(x, y), api.ErrNone)
		}
		for _, by := range edges() {
			f.Warm(x, by)
		}
		f.Free(x)
		for _, mark := range []bool{false, true} {
			answers(t, "Put", f.Put(x, []byte{1}, mark), api.ErrNone)
			answers(t, "Put", f.Put(x, nil, mark), api.ErrNone)
		}
		getsNone(t, f, x)
		answers(t, "Clean", f.Clean(x), api.ErrNone)
		answers(t, "Drop", f.Drop(x), api.ErrNone)
		written(t, f, x, false)
		pinned(t, f, x, false)
	}
	left(t, f, 0)
	noVictim(t, f, api.ErrNone)
	keys(t, f)
}

// Beyond the promises: a table that New did not make has no frames.
func TestZero(t *testing.T) {
	f := &Table{}
	for _, x := range numbers() {
		answers(t, "Reserve", f.Reserve(x, 1), api.ErrFrames)
		answers(t, "Put", f.Put(x, []byte{1}, true), api.ErrFull)
		answers(t, "Pin", f.Pin(x, x), api.ErrNone)
		getsNone(t, f, x)
		answers(t, "Clean", f.Clean(x), api.ErrNone)
		answers(t, "Drop", f.Drop(x), api.ErrNone)
		written(t, f, x, false)
		pinned(t, f, x, false)
		f.Warm(x, 1)
		f.Free(x)
	}
	left(t, f, 0)
	noVictim(t, f, api.ErrFrames)
	keys(t, f)
}

// R4: bytes go in and out by their values; the room behind them stays as it is.
func TestBytesAreNew(t *testing.T) {
	f := made(t, 2)
	room := []byte{1, 2, 3, 4, 5}
	answers(t, "Put", f.Put(1, room[:3], false), api.OK)
	answers(t, "Put", f.Put(2, room[:3], false), api.OK)
	if !bytes.Equal(room, []byte{1, 2, 3, 4, 5}) {
		t.Fatal(room)
	}
	room[0] = 9
	gets(t, f, 1, []byte{1, 2, 3})
	got, _ := f.Get(1)
	got[1] = 9
	_ = append(got[:0], 7, 7, 7, 7)
	gets(t, f, 1, []byte{1, 2, 3})
	gets(t, f, 2, []byte{1, 2, 3})
	kept, _ := f.Get(1)
	answers(t, "Put", f.Put(1, []byte{8, 8, 8}, false), api.OK)
	if !bytes.Equal(kept, []byte{1, 2, 3}) {
		t.Fatal(kept)
	}
	told := f.Keys()
	told[0] = 99
	keys(t, f, 1, 2)
}

// R6: two tables share nothing.
func TestApart(t *testing.T) {
	a, b := full(t, 1, 2), full(t, 1, 2)
	a.Warm(1, 5)
	answers(t, "Pin", a.Pin(1, 1), api.OK)
	answers(t, "Reserve", a.Reserve(1, 2), api.OK)
	answers(t, "Put", a.Put(1, []byte("a"), true), api.OK)
	victim(t, a, 2)
	victim(t, b, 1)
	pinned(t, b, 1, false)
	left(t, b, 2)
	written(t, b, 1, false)
	gets(t, b, 1, []byte{1})
	b.Free(1)
	pinned(t, a, 1, true)
	left(t, a, 0)
}

// Many tasks that pin all keys: what is asked of one key is told at once.
func TestManyPins(t *testing.T) {
	f := made(t, api.MaxFrames)
	for key := range api.MaxFrames {
		answers(t, "Put", f.Put(key, nil, false), api.OK)
	}
	for task := range 50 {
		for key := range api.MaxFrames {
			answers(t, "Pin", f.Pin(task, key), api.OK)
		}
	}
	for task := range 50 {
		noVictim(t, f, api.ErrFrames)
		f.Free(task)
	}
	victim(t, f, 0)
}

// slot is a frame of the book, empty ones with them.
type slot struct {
	taken, written bool
	key            int
	b              string
	heat           float64
	told           int
}

// book has a table's frames one by one, and goes the chapter's words; its heats
// halve by division, and not by the layers below.
type book struct {
	slots    []slot
	time     int
	reserved [][2]int // a task, and how many
	pins     [][2]int // a task, and a key
}

func (b *book) find(key int) *slot {
	for i := range b.slots {
		if b.slots[i].taken && b.slots[i].key == key {
			return &b.slots[i]
		}
	}
	return nil
}

func (b *book) empty() *slot {
	for i := range b.slots {
		if !b.slots[i].taken {
			return &b.slots[i]
		}
	}
	return nil
}

func brought(x float64) float64 {
	if x != x || x == 0 {
		return 0
	}
	return x
}

func (b *book) heat(s *slot) float64 {
	x := s.heat
	for range (b.time - s.told) / 16 {
		x /= 2
	}
	return brought(x)
}

func (b *book) touch(s *slot, by float64) {
	b.time++
	s.heat, s.told = brought(b.heat(s)+by), b.time
}

func (b *book) left() int {
	n := len(b.slots)
	for _, r := range b.reserved {
		n -= r[1]
	}
	return n
}

func (b *book) reserve(task, n int) api.Errno {
	switch {
	case n < 1:
		return api.ErrArg
	case slices.ContainsFunc(b.reserved, func(r [2]int) bool { return r[0] == task }):
		return api.ErrBusy
	case n > b.left():
		return api.ErrFrames
	}
	b.reserved = append(b.reserved, [2]int{task, n})
	return api.OK
}

func (b *book) free(task int) {
	of := func(r [2]int) bool { return r[0] == task }
	b.reserved = slices.DeleteFunc(b.reserved, of)
	b.pins = slices.DeleteFunc(b.pins, of)
}

func (b *book) pinned(key int) bool {
	return b.find(key) != nil && slices.ContainsFunc(b.pins, func(p [2]int) bool { return p[1] == key })
}

func (b *book) put(key int, x string, written bool) api.Errno {
	s := b.find(key)
	if s == nil {
		if s = b.empty(); s == nil {
			return api.ErrFull
		}
		*s = slot{taken: true, key: key}
	}
	s.b, s.written = x, s.written || written
	return api.OK
}

func (b *book) drop(key int) api.Errno {
	s := b.find(key)
	switch {
	case s == nil:
		return api.ErrNone
	case b.pinned(key):
		return api.ErrBusy
	}
	*s = slot{}
	return api.OK
}

// victim goes through the keys from the least one on: only a colder one takes
// its place.
func (b *book) victim() (int, api.Errno) {
	if b.empty() != nil {
		return 0, api.ErrNone
	}
	var first *slot
	for _, key := range b.keys() {
		s := b.find(key)
		if !b.pinned(key) && (first == nil || b.heat(s) < b.heat(first)) {
			first = s
		}
	}
	if first == nil {
		return 0, api.ErrFrames
	}
	return first.key, api.OK
}

func (b *book) keys() []int {
	var l []int
	for _, s := range b.slots {
		if s.taken {
			l = append(l, s.key)
		}
	}
	slices.Sort(l)
	return l
}

// holds holds all that may be asked without a touch against the book.
func (b *book) holds(t testing.TB, f *Table) {
	t.Helper()
	left(t, f, b.left())
	keys(t, f, b.keys()...)
	for key := -2; key <= 8; key++ {
		s := b.find(key)
		written(t, f, key, s != nil && s.written)
		pinned(t, f, key, b.pinned(key))
	}
	want, code := b.victim()
	if key, e := f.Victim(); key != want || e != code {
		t.Fatalf("Victim() = %d, %d, not %d, %d", key, e, want, code)
	}
}

// steps are told by bytes.
type steps []byte

func (s *steps) next() int {
	if len(*s) == 0 {
		return 0
	}
	n := (*s)[0]
	*s = (*s)[1:]
	return int(n)
}

func (s *steps) key() int { return s.next()%11 - 2 }

func (s *steps) task() int { return s.next()%4 - 1 }

func (s *steps) by() float64 {
	n := s.next()
	if n >= 160 {
		return edges()[n%len(edges())]
	}
	return float64(n%9)/4 - 0.5
}

// run goes through steps with a table and its book; if blind, the table is asked
// at the end alone, as asking must change nothing.
func run(t testing.TB, s steps, blind bool) {
	n := 1 + s.next()%7
	f, b := made(t, n), &book{slots: make([]slot, n)}
	for len(s) > 0 {
		turn(t, &s, f, b)
		if !blind {
			b.holds(t, f)
		}
	}
	b.holds(t, f)
}

func turn(t testing.TB, s *steps, f *Table, b *book) {
	kind := s.next() % 16
	switch kind {
	case 0:
		task, n := s.task(), s.next()%9-1
		answers(t, "Reserve", f.Reserve(task, n), b.reserve(task, n))
	case 1:
		task := s.task()
		f.Free(task)
		b.free(task)
	case 2, 3, 4, 5:
		key, x, mark := s.key(), fmt.Sprint(s.next()), s.next()%3 == 0
		answers(t, "Put", f.Put(key, []byte(x), mark), b.put(key, x, mark))
	case 6:
		key, want := s.key(), api.ErrNone
		if at := b.find(key); at != nil {
			at.written, want = false, api.OK
		}
		answers(t, "Clean", f.Clean(key), want)
	case 7, 8:
		key := s.key()
		answers(t, "Drop", f.Drop(key), b.drop(key))
	case 9, 10:
		task, key, want := s.task(), s.key(), api.ErrNone
		if b.find(key) != nil {
			b.pins, want = append(b.pins, [2]int{task, key}), api.OK
		}
		answers(t, "Pin", f.Pin(task, key), want)
	case 11, 12:
		key, by := s.key(), s.by()
		f.Warm(key, by)
		if at := b.find(key); at != nil {
			b.touch(at, by)
		}
	default:
		key := s.key()
		if at := b.find(key); at != nil {
			b.touch(at, 1)
			gets(t, f, key, []byte(at.b))
		} else {
			getsNone(t, f, key)
		}
	}
}

// P13.1 to P13.3 over many steps: all answers are those of the book.
func TestRandom(t *testing.T) {
	for seed := range int64(600) {
		s := make(steps, 1500)
		rand.New(rand.NewSource(seed)).Read(s)
		run(t, s, seed%4 == 0)
	}
}

func FuzzSteps(f *testing.F) {
	f.Add([]byte{1, 2, 5, 1, 0, 2, 6, 2, 1, 13, 5, 9, 1, 6, 9, 1, 5, 1, 1, 7, 5})
	f.Add([]byte{4, 0, 2, 4, 0, 2, 1, 0, 3, 4, 1, 2})
	f.Fuzz(func(t *testing.T, s []byte) { run(t, s[:min(len(s), 2000)], len(s)%2 == 0) })
}
