package spill

import (
	"math"
	"math/rand"
	"slices"
	"testing"

	"thimble/api"
)

// numbers are pages, or how many slots there are, at the ends of their numbers,
// and near to nought.
func numbers() []int {
	return []int{math.MinInt, math.MinInt + 1, math.MinInt32, -2, -1, 0, 1, 2, api.MaxPages - 1, api.MaxPages, math.MaxInt32, math.MaxInt - 1, math.MaxInt}
}

// entries are at the ends of their numbers; the zero one is one like others.
func entries() []api.Entry {
	return []api.Entry{
		{},
		{Epoch: 1},
		{Boot: 1},
		{Seq: 1},
		{Epoch: 1, Boot: 2, Seq: 3},
		{Epoch: 3, Boot: 2, Seq: 1},
		{Epoch: math.MaxUint32},
		{Boot: math.MaxUint32},
		{Seq: math.MaxUint64},
		{Epoch: math.MaxUint32, Boot: math.MaxUint32, Seq: math.MaxUint64},
	}
}

var (
	a = api.Entry{Epoch: 1, Boot: 1, Seq: 1}
	b = api.Entry{Epoch: 2, Boot: 3, Seq: 4}
	c = api.Entry{Epoch: 5, Boot: 6, Seq: 7}
)

func made(t testing.TB, n int) *Slots {
	t.Helper()
	s, e := New(n)
	if s == nil || e != api.OK {
		t.Fatalf("New(%d): %v, %d", n, s, e)
	}
	return s
}

func give(t testing.TB, s *Slots, page int, x api.Entry, want int) {
	t.Helper()
	if at, e := s.Give(page, x); at != want || e != api.OK {
		t.Fatalf("Give(%d, %v) = %d, %d, not %d", page, x, at, e, want)
	}
}

func refused(t testing.TB, s *Slots, page int, x api.Entry, want api.Errno) {
	t.Helper()
	for range 2 {
		if at, e := s.Give(page, x); at != 0 || e != want {
			t.Fatalf("Give(%d, %v) = %d, %d, not 0, %d", page, x, at, e, want)
		}
	}
}

// has asks twice, as asking changes nothing.
func has(t testing.TB, s *Slots, page, want int, under api.Entry) {
	t.Helper()
	for range 2 {
		if at, x, ok := s.Of(page); at != want || x != under || !ok {
			t.Fatalf("Of(%d) = %d, %v, %v, not %d, %v, true", page, at, x, ok, want, under)
		}
	}
}

func hasNone(t testing.TB, s *Slots, page int) {
	t.Helper()
	for range 2 {
		if at, x, ok := s.Of(page); at != 0 || x != (api.Entry{}) || ok {
			t.Fatalf("Of(%d) = %d, %v, %v, not 0, zero, false", page, at, x, ok)
		}
	}
}

func pages(t testing.TB, s *Slots, want ...int) {
	t.Helper()
	for range 2 {
		if got := s.Pages(); !slices.Equal(got, want) {
			t.Fatalf("Pages() = %v, not %v", got, want)
		}
	}
}

// full has n slots, all given: slot i holds page i under the Seq i.
func full(t testing.TB, n int) *Slots {
	t.Helper()
	s := made(t, n)
	for i := range n {
		give(t, s, i, api.Entry{Seq: uint64(i)}, i)
	}
	return s
}

// all holds that a full one still has all that it had but for the pages without.
func all(t testing.TB, s *Slots, n int, without ...int) {
	t.Helper()
	var want []int
	for i := range n {
		if slices.Contains(without, i) {
			hasNone(t, s, i)
			continue
		}
		has(t, s, i, i, api.Entry{Seq: uint64(i)})
		want = append(want, i)
	}
	pages(t, s, want...)
}

// The chapter's examples.
func TestExamples(t *testing.T) {
	s := made(t, 2)
	give(t, s, 7, a, 0)
	give(t, s, 3, b, 1)
	give(t, s, 7, c, 0)
	refused(t, s, 1, a, api.ErrFull)
	s.Free(7)
	give(t, s, 1, a, 0)
}

// P20.1: how many slots there may be; all of them are free, and all are there.
func TestNew(t *testing.T) {
	for n := 1; n <= api.MaxBudget; n++ {
		s := made(t, n)
		pages(t, s)
		for _, page := range numbers() {
			hasNone(t, s, page)
		}
		for i := range n {
			give(t, s, -i, a, i)
		}
		refused(t, s, n, a, api.ErrFull)
	}
	for _, n := range []int{0, -1, -256, math.MinInt, math.MinInt32, api.MaxBudget + 1, 512, 65536, math.MaxInt32, math.MaxInt} {
		if s, e := New(n); s != nil || e != api.ErrArg {
			t.Errorf("New(%d): %v, %d", n, s, e)
		}
	}
}

// P20.1: a page keeps its slot, which holds it under the last entry alone; so it
// is, too, if a slot below it is free, and if none is.
func TestGiveAgain(t *testing.T) {
	s := made(t, 3)
	give(t, s, 10, a, 0)
	give(t, s, 20, a, 1)
	give(t, s, 30, a, 2)
	for _, x := range entries() {
		give(t, s, 20, x, 1)
		has(t, s, 20, 1, x)
		has(t, s, 10, 0, a)
		has(t, s, 30, 2, a)
		pages(t, s, 10, 20, 30)
	}
	s.Free(10)
	give(t, s, 30, b, 2)
	has(t, s, 30, 2, b)
	pages(t, s, 20, 30)
	give(t, s, 40, c, 0)
	has(t, s, 40, 0, c)
	refused(t, s, 10, a, api.ErrFull) // its slot is another's now
}

// P20.1: of several slots that are free the least, whichever these are.
func TestGiveLeast(t *testing.T) {
	const n = 6
	for gone := range 1 << n {
		s := full(t, n)
		var free, without []int
		for i := range n {
			if gone>>i&1 == 1 {
				free = append(free, i)
			}
		}
		// The order in which they became free plays no part.
		for _, i := range slices.Backward(free) {
			s.Free(i)
			without = append(without, i)
		}
		all(t, s, n, without...)
		for i, at := range free {
			give(t, s, 100-i, a, at)
			has(t, s, 100-i, at, a)
		}
		refused(t, s, 101, a, api.ErrFull)
	}
}

// P20.1: each slot of as many as there may be, freed and given anew.
func TestEachSlot(t *testing.T) {
	for _, n := range []int{1, 2, 255, api.MaxBudget} {
		for at := range n {
			s := full(t, n)
			s.Free(at)
			all(t, s, n, at)
			give(t, s, -1, b, at)
			has(t, s, -1, at, b)
			refused(t, s, at, a, api.ErrFull)
			s.Free(-1)
			give(t, s, at, api.Entry{Seq: uint64(at)}, at)
			all(t, s, n)
		}
	}
}

// P20.1, R3, R5: where none is free, a page that has none is refused, and
// nothing is changed; one that has one is not.
func TestGiveFull(t *testing.T) {
	for _, n := range []int{1, 2, 3, api.MaxBudget} {
		s := full(t, n)
		for _, page := range []int{n, n + 1, -1, math.MinInt, math.MaxInt} {
			for _, x := range entries() {
				refused(t, s, page, x, api.ErrFull)
			}
			hasNone(t, s, page)
		}
		all(t, s, n)
		for i := range n {
			give(t, s, i, a, i)
			has(t, s, i, i, a)
		}
		s.Free(n)
		refused(t, s, n, a, api.ErrFull)
		s.Free(n - 1)
		give(t, s, n, a, n-1)
	}
}

// P20.1: pages of all numbers are apart; each may have a slot.
func TestNumbers(t *testing.T) {
	many := len(numbers())
	s := made(t, many)
	for i, page := range numbers() {
		give(t, s, page, api.Entry{Boot: uint32(i)}, i)
	}
	pages(t, s, numbers()...)
	for i, page := range numbers() {
		has(t, s, page, i, api.Entry{Boot: uint32(i)})
		s.Free(page)
		hasNone(t, s, page)
		pages(t, s, slices.Delete(numbers(), i, i+1)...)
		give(t, s, page, api.Entry{Boot: uint32(i)}, i)
	}
	pages(t, s, numbers()...)
}

// P20.1: pages under all entries, the zero one too; two under one are two.
func TestEntries(t *testing.T) {
	for _, x := range entries() {
		s := made(t, 2)
		give(t, s, 4, x, 0)
		give(t, s, 5, x, 1)
		has(t, s, 4, 0, x)
		has(t, s, 5, 1, x)
		pages(t, s, 4, 5)
		s.Free(4)
		hasNone(t, s, 4)
		has(t, s, 5, 1, x)
	}
}

// P20.1: Free of pages that have none, or none any more, is nothing; a page is
// freed by its number, not by that of its slot.
func TestFree(t *testing.T) {
	s := made(t, 3)
	for _, page := range numbers() {
		s.Free(page)
	}
	pages(t, s)
	give(t, s, 1, a, 0)
	give(t, s, 2, b, 1)
	give(t, s, 0, c, 2)
	for _, page := range []int{-1, 3, math.MinInt, math.MaxInt} {
		s.Free(page)
	}
	pages(t, s, 0, 1, 2)
	s.Free(0)
	has(t, s, 1, 0, a)
	has(t, s, 2, 1, b)
	for range 3 {
		s.Free(0)
		s.Free(2)
	}
	hasNone(t, s, 0)
	hasNone(t, s, 2)
	has(t, s, 1, 0, a)
	pages(t, s, 1)
	give(t, s, 0, a, 1) // it need not be the one that it had
	give(t, s, 2, a, 2)
	refused(t, s, 3, a, api.ErrFull)
}

// P20.1: a page that comes back has nothing left of its entry.
func TestFreeForgets(t *testing.T) {
	s := made(t, 2)
	give(t, s, 9, b, 0)
	s.Free(9)
	hasNone(t, s, 9)
	give(t, s, 9, api.Entry{}, 0)
	has(t, s, 9, 0, api.Entry{})
	s.Clear()
	hasNone(t, s, 9)
	give(t, s, 8, api.Entry{}, 0)
	give(t, s, 9, a, 1)
	has(t, s, 8, 0, api.Entry{})
}

// P20.1: Clear of all, of some, of none, and twice: all slots are free then, from
// the first one on.
func TestClear(t *testing.T) {
	for _, n := range []int{1, 2, 3, api.MaxBudget} {
		for given := range n + 1 {
			s := made(t, n)
			for i := range given {
				give(t, s, 1000-i, b, i)
			}
			s.Clear()
			pages(t, s)
			for i := range given {
				hasNone(t, s, 1000-i)
			}
			s.Clear()
			for i := range n {
				give(t, s, i, api.Entry{Seq: uint64(i)}, i)
			}
			all(t, s, n)
			refused(t, s, n, a, api.ErrFull)
		}
	}
}

// P20.1: all that have one, rising, however they came and went.
func TestPages(t *testing.T) {
	s := made(t, api.MaxBudget)
	order := rand.New(rand.NewSource(1)).Perm(api.MaxBudget)
	var want []int
	for _, i := range order {
		page := 37*i - 4000
		give(t, s, page, a, len(want))
		want = append(want, page)
		slices.Sort(want)
		pages(t, s, want...)
	}
	for _, i := range order[:100] {
		page := 37*i - 4000
		s.Free(page)
		want = slices.DeleteFunc(want, func(n int) bool { return n == page })
		pages(t, s, want...)
	}
}

// P20.1, R1: each call of a nil one, with arguments of all kinds.
func TestNil(t *testing.T) {
	var s *Slots
	for _, page := range numbers() {
		for _, x := range entries() {
			refused(t, s, page, x, api.ErrNone)
		}
		hasNone(t, s, page)
		s.Free(page)
		s.Clear()
		pages(t, s)
	}
}

// R1: one that New didn't make has no slots: no call of it panics.
func TestZero(t *testing.T) {
	var s Slots
	for _, page := range numbers() {
		s.Free(page)
		refused(t, &s, page, a, api.ErrFull)
		hasNone(t, &s, page)
		s.Clear()
		pages(t, &s)
	}
}

// R4: what Pages tells is new memory.
func TestToldIsNew(t *testing.T) {
	s := full(t, 5)
	one, two := s.Pages(), s.Pages()
	one = one[:cap(one)]
	for i := range one {
		one[i] = -7
	}
	if !slices.Equal(two, []int{0, 1, 2, 3, 4}) {
		t.Fatalf("two answers share memory: %v", two)
	}
	all(t, s, 5)
	s.Clear()
	if !slices.Equal(two, []int{0, 1, 2, 3, 4}) {
		t.Fatalf("an answer was changed: %v", two)
	}
}

// R6: two of them share nothing.
func TestApart(t *testing.T) {
	s, u := full(t, 3), full(t, 3)
	s.Clear()
	all(t, u, 3)
	give(t, s, 2, b, 0)
	u.Free(2)
	has(t, s, 2, 0, b)
	all(t, u, 3, 2)
}

// book holds, slot by slot, what the chapter's words say of it.
type book []struct {
	taken bool
	page  int
	x     api.Entry
}

func (k book) find(page int) int {
	for at, l := range k {
		if l.taken && l.page == page {
			return at
		}
	}
	return -1
}

func (k book) give(page int, x api.Entry) (int, api.Errno) {
	at := k.find(page)
	for i := 0; at < 0 && i < len(k); i++ {
		if !k[i].taken {
			at = i
		}
	}
	if at < 0 {
		return 0, api.ErrFull
	}
	k[at].taken, k[at].page, k[at].x = true, page, x
	return at, api.OK
}

func (k book) free(page int) {
	if at := k.find(page); at >= 0 {
		k[at].taken = false
	}
}

func (k book) clear() {
	for at := range k {
		k[at].taken = false
	}
}

// like holds that all answers are those of the book, for the pages from low to high.
func (k book) like(t testing.TB, s *Slots, low, high int) {
	t.Helper()
	var want []int
	for page := low; page <= high; page++ {
		wantAt, wantX, wantOk := 0, api.Entry{}, false
		if at := k.find(page); at >= 0 {
			wantAt, wantX, wantOk = at, k[at].x, true
			want = append(want, page)
		}
		if at, x, ok := s.Of(page); at != wantAt || x != wantX || ok != wantOk {
			t.Fatalf("Of(%d) = %d, %v, %v, not %d, %v, %v", page, at, x, ok, wantAt, wantX, wantOk)
		}
	}
	if got := s.Pages(); !slices.Equal(got, want) {
		t.Fatalf("Pages() = %v, not %v", got, want)
	}
}

// run makes one call of both: what is below 0 is a Clear, an even number a Give
// of half of it, an odd one a Free.
func (k book) run(t testing.TB, s *Slots, what int, x api.Entry) {
	t.Helper()
	switch {
	case what < 0:
		s.Clear()
		k.clear()
	case what%2 == 0:
		at, e := s.Give(what/2, x)
		wantAt, want := k.give(what/2, x)
		if at != wantAt || e != want {
			t.Fatalf("Give(%d, %v) = %d, %d, not %d, %d", what/2, x, at, e, wantAt, want)
		}
	default:
		s.Free(what / 2)
		k.free(what / 2)
	}
}

// P20.1: all runs of five calls, with four pages, of one slot to three.
func TestAllRuns(t *testing.T) {
	const kinds, long = 9, 5
	runs := 1
	for range long {
		runs *= kinds
	}
	for n := 1; n <= 3; n++ {
		for run := range runs {
			s, k := made(t, n), make(book, n)
			for i, rest := 0, run; i < long; i, rest = i+1, rest/kinds {
				k.run(t, s, rest%kinds-1, api.Entry{Seq: uint64(i + 1)})
			}
			k.like(t, s, 0, 3)
		}
	}
}

// P20.1 over many calls: all answers are those of the book.
func TestRandom(t *testing.T) {
	g := rand.New(rand.NewSource(2))
	for _, n := range []int{1, 2, 3, 7, 16, 64, 255, 256} {
		for _, many := range []int{n, n + 1, 2*n + 3} {
			s, k := made(t, n), make(book, n)
			for range 3000 {
				what := g.Intn(2 * many)
				if g.Intn(3) > 0 {
					what &^= 1
				}
				if g.Intn(20*n) == 0 {
					what = -1
				}
				k.run(t, s, what, api.Entry{Epoch: g.Uint32(), Boot: g.Uint32(), Seq: g.Uint64()})
				if g.Intn(20) == 0 {
					k.like(t, s, -1, many)
				}
			}
			k.like(t, s, -1, many)
		}
	}
}

func FuzzSlots(f *testing.F) {
	f.Add(2, []byte{14, 6, 14, 2, 15, 2})
	f.Add(1, []byte{255, 0, 1, 0, 2})
	f.Add(0, []byte{0})
	f.Add(256, []byte{0, 2, 4, 3, 8})
	f.Fuzz(func(t *testing.T, n int, calls []byte) {
		if n < 1 || n > 256 {
			if s, e := New(n); s != nil || e != api.ErrArg {
				t.Fatalf("New(%d): %v, %d", n, s, e)
			}
			return
		}
		s, k := made(t, n), make(book, n)
		for i, what := range calls {
			k.run(t, s, int(int8(what)), api.Entry{Boot: uint32(what), Seq: uint64(i)})
			k.like(t, s, 0, 63)
		}
	})
}
