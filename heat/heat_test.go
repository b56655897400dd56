package heat

import (
	"math"
	"math/rand"
	"slices"
	"testing"

	"thimble/api"
)

var (
	none  = math.NaN()
	high  = math.Inf(1)
	low   = math.Inf(-1)
	minus = math.Copysign(0, -1)
	least = math.SmallestNonzeroFloat64
	full  = math.Ldexp(1, -1022)
	most  = math.MaxFloat64
)

// edges are numbers that anybody may hand in, no number in many forms.
func edges() []float64 {
	l := []float64{none, high, low, 0, minus, least, -least, 3 * least, -3 * least, 5 * least, full, -full,
		full - least, 1, -1, 0.1, -0.1, 1.5, 1e300, -1e300, most, -most}
	for _, b := range []uint64{0x7ff0000000000001, 0x7fffffffffffffff, 0xfff0000000000001, 0xfff8000000000000, 0xffffffffffffffff} {
		l = append(l, math.Float64frombits(b))
	}
	return l
}

// keyEdges are keys at the ends of their numbers, and near to nought.
func keyEdges() []int {
	return []int{math.MinInt, math.MinInt + 1, math.MinInt32, -2, -1, 0, 1, 2, math.MaxInt32, math.MaxInt - 1, math.MaxInt}
}

func made(t testing.TB, half int) *Heat {
	t.Helper()
	h, e := New(half)
	if h == nil || e != api.OK {
		t.Fatalf("New(%d): %v, %d", half, h, e)
	}
	return h
}

// is holds a key's heat by its bits: no heat is no number, or -0.
func is(t testing.TB, h *Heat, key int, want float64) {
	t.Helper()
	for range 2 {
		if got := h.Of(key); math.Float64bits(got) != math.Float64bits(want) {
			t.Fatalf("Of(%d) = %v (%x), not %v", key, got, math.Float64bits(got), want)
		}
	}
}

func coldest(t testing.TB, h *Heat, want int, keys ...int) {
	t.Helper()
	if k, ok := h.Coldest(keys); k != want || !ok {
		t.Fatalf("Coldest(%v) = %d, %v, not %d", keys, k, ok, want)
	}
}

// pass lets n touches go by, of a key that no test asks for.
func pass(h *Heat, n int) {
	for range n {
		h.Touch(-777, 0)
	}
}

// The chapter's examples.
func TestExamples(t *testing.T) {
	h := made(t, 2)
	h.Touch(1, 8)
	h.Touch(2, 1)
	h.Touch(2, 1)
	is(t, h, 1, 4)
	is(t, h, 2, 2)
	coldest(t, h, 3, 1, 2, 3)
	h.Touch(4, high)
	h.Touch(4, low)
	is(t, h, 4, 0)
}

// P12.1: which halves there are.
func TestNew(t *testing.T) {
	for _, half := range []int{1, 2, 3, 16, 500, 999, 1000} {
		h := made(t, half)
		for _, key := range keyEdges() {
			is(t, h, key, 0)
		}
	}
	for _, half := range []int{0, -1, -2, -1000, math.MinInt, math.MinInt32, 1001, 1002, 65536, math.MaxInt32, math.MaxInt} {
		if h, e := New(half); h != nil || e != api.ErrArg {
			t.Errorf("New(%d): %v, %d", half, h, e)
		}
	}
}

// P12.1: the time is 0 at first: a heat halves when so many touches were behind
// the one that told it, and at none ahead of that.
func TestHalves(t *testing.T) {
	for _, half := range []int{1, 2, 3, 7, 16, 999, 1000} {
		for _, ahead := range []int{0, 1, half - 1, half, half + 1} {
			h := made(t, half)
			pass(h, ahead)
			h.Touch(5, 64)
			want := 64.0
			for range 4 {
				for range half {
					is(t, h, 5, want)
					pass(h, 1)
				}
				want /= 2
			}
			is(t, h, 5, want)
		}
	}
}

// P12.1: a touch counts as time for the key that is touched, too, ahead of what
// is added; and the heat is told at that time, whole halves or not.
func TestTouchFadesFirst(t *testing.T) {
	h := made(t, 1)
	for _, want := range []float64{8, 12, 14, 15, 15.5} {
		h.Touch(1, 8)
		is(t, h, 1, want)
	}
	h = made(t, 2)
	for _, want := range []float64{8, 16, 24, 32} { // what is left of a half begins anew at each touch
		h.Touch(1, 8)
		is(t, h, 1, want)
	}
	h = made(t, 3)
	h.Touch(1, 8)
	pass(h, 2)
	h.Touch(1, 1)
	is(t, h, 1, 5)
	pass(h, 2)
	is(t, h, 1, 5)
	pass(h, 1)
	is(t, h, 1, 2.5)
	h.Touch(1, 0)
	is(t, h, 1, 2.5)
	pass(h, 5)
	h.Touch(1, -1)
	is(t, h, 1, -0.375)
}

// P12.1: what is handed in as by, at a heat of nought.
func TestTouchFirst(t *testing.T) {
	for _, by := range edges() {
		want := by
		if by != by || by == 0 {
			want = 0
		}
		h := made(t, 1)
		h.Touch(7, by)
		is(t, h, 7, want)
		h = made(t, 1000)
		h.Touch(7, 5)
		h.Touch(7, -5)
		is(t, h, 7, 0)
		h.Touch(7, by)
		is(t, h, 7, want)
	}
}

// P12.1: sums of edges with one another, within a half.
func TestTouchSums(t *testing.T) {
	for _, a := range edges() {
		for _, b := range edges() {
			h := made(t, 1000)
			h.Touch(7, a)
			h.Touch(7, b)
			want := brought(brought(a) + b)
			is(t, h, 7, want)
		}
	}
	for _, c := range []struct{ a, b, want float64 }{
		{high, low, 0}, {low, high, 0}, {high, high, high}, {low, low, low}, {high, -most, high}, {low, most, low},
		{high, none, 0}, {none, high, high}, {none, none, 0}, {none, 3, 3}, {3, none, 0}, {minus, minus, 0},
		{most, most, high}, {-most, -most, low}, {most, -most, 0}, {least, -least, 0}, {minus, -least, -least},
		{1, least, 1}, {1e300, -1, 1e300}, {-2, 5, 3},
	} {
		h := made(t, 1000)
		h.Touch(7, c.a)
		h.Touch(7, c.b)
		is(t, h, 7, c.want)
	}
}

// P12.1: what few digits are left of goes to the even neighbour; what fades
// away below 0 is +0.
func TestFadesAway(t *testing.T) {
	for _, c := range []struct {
		by   float64
		want []float64
	}{
		{3 * least, []float64{3 * least, 2 * least, least, 0, 0}},
		{-3 * least, []float64{-3 * least, -2 * least, -least, 0, 0}},
		{5 * least, []float64{5 * least, 2 * least, least, 0}},
		{-least, []float64{-least, 0, 0}},
		{high, []float64{high, high, high}},
		{low, []float64{low, low, low}},
		{none, []float64{0, 0}},
		{minus, []float64{0, 0}},
	} {
		for _, half := range []int{1, 4} {
			h := made(t, half)
			h.Touch(1, c.by)
			for _, want := range c.want {
				is(t, h, 1, want)
				pass(h, half)
			}
			h.Touch(1, minus)
			is(t, h, 1, c.want[len(c.want)-1])
		}
	}
}

// P12.1: over a long time, by the longest half: 2^1023 halves 1023 + 1074 times
// to the least number, and once more to nought; an infinity stays.
func TestLongTime(t *testing.T) {
	const half = 1000
	h := made(t, half)
	h.Touch(1, math.Ldexp(1, 1023))
	h.Touch(2, -math.Ldexp(1, 1023))
	h.Touch(3, high)
	h.Touch(4, low)
	pass(h, 2097*half)
	is(t, h, 1, least)
	is(t, h, 2, -least)
	pass(h, half-4)
	is(t, h, 1, least)
	pass(h, 1)
	is(t, h, 1, 0)
	is(t, h, 2, -least)
	pass(h, 1)
	is(t, h, 2, 0)
	is(t, h, 3, high)
	is(t, h, 4, low)
	coldest(t, h, 4, 1, 2, 3, 4)
}

// P12.1: who was dropped has no heat, and others keep theirs; the time goes on.
func TestDrop(t *testing.T) {
	h := made(t, 4)
	h.Drop(1) // it was never touched
	is(t, h, 1, 0)
	h.Touch(1, 8)
	h.Touch(2, 32)
	h.Touch(3, high)
	h.Drop(1)
	h.Drop(3)
	h.Drop(3)
	is(t, h, 1, 0)
	is(t, h, 2, 32)
	is(t, h, 3, 0)
	h.Touch(1, 3) // of what it had nothing is left
	is(t, h, 1, 3)
	pass(h, 1)
	is(t, h, 2, 32)
	for range 20 {
		h.Drop(1) // a Drop is no touch
	}
	is(t, h, 2, 32)
	pass(h, 1)
	is(t, h, 2, 16)
	h.Touch(3, -5)
	is(t, h, 3, -5)
}

// P12.1: keys of all numbers are apart.
func TestKeysApart(t *testing.T) {
	h := made(t, 1000)
	for i, key := range keyEdges() {
		h.Touch(key, float64(i+1))
	}
	for i, key := range keyEdges() {
		is(t, h, key, float64(i+1))
	}
	h.Drop(0)
	for i, key := range keyEdges() {
		if key != 0 {
			is(t, h, key, float64(i+1))
		}
	}
	is(t, h, 0, 0)
	is(t, h, 3, 0)
}

// P12.2: of several that are as cold the least, wherever they stand in the list.
func TestColdest(t *testing.T) {
	h := made(t, 1000)
	h.Touch(1, 5)
	h.Touch(2, 3)
	h.Touch(3, 3)
	h.Touch(4, -1)
	h.Touch(5, high)
	h.Touch(6, low)
	h.Touch(7, none)
	h.Touch(8, minus)
	h.Touch(-9, 3)
	for _, c := range []struct {
		keys []int
		want int
	}{
		{[]int{1}, 1}, {[]int{5}, 5}, {[]int{6}, 6}, {[]int{99}, 99}, {[]int{1, 1, 1}, 1},
		{[]int{1, 2}, 2}, {[]int{2, 1}, 2}, {[]int{2, 3}, 2}, {[]int{3, 2}, 2}, {[]int{3, 1, 2}, 2}, {[]int{2, 3, -9}, -9}, {[]int{-9, 2, 3}, -9},
		{[]int{1, 5}, 1}, {[]int{5, 1}, 1}, {[]int{4, 6}, 6}, {[]int{6, 4}, 6}, {[]int{4, 7}, 4}, {[]int{8, 4, 7}, 4},
		{[]int{8, 7}, 7}, {[]int{7, 8}, 7}, {[]int{10, 8, 7}, 7}, {[]int{0, 8, 7}, 0}, {[]int{8, 0, 7}, 0}, {[]int{2, 8, 10}, 8},
		{[]int{1, 2, 3, 4, 5, 6, 7, 8}, 6}, {[]int{1, 2, 3, 4, 5}, 4}, {[]int{5, 2, 3}, 2},
		{[]int{math.MaxInt, math.MinInt, 0}, math.MinInt}, {[]int{math.MinInt, math.MaxInt}, math.MinInt},
		{[]int{4, math.MinInt, math.MaxInt}, 4},
	} {
		coldest(t, h, c.want, c.keys...)
	}
}

// P12.2: of several infinities, and of several that faded away, the least key.
func TestColdestTies(t *testing.T) {
	h := made(t, 1)
	for _, key := range []int{3, 1, 2} {
		h.Touch(key, high)
		h.Touch(10+key, low)
		h.Touch(20+key, -least)
	}
	coldest(t, h, 1, 3, 2, 1)
	coldest(t, h, 11, 13, 12, 11, 1)
	coldest(t, h, 22, 23, 22) // 22 alone has not faded away yet
	pass(h, 1)
	coldest(t, h, 21, 23, 21, 22)
	coldest(t, h, 20, 23, 21, 22, 20)
}

// P12.2: what is coldest hangs on heats at the time, not as they were told.
func TestColdestFades(t *testing.T) {
	h := made(t, 2)
	h.Touch(9, 8)
	h.Touch(8, 5)
	coldest(t, h, 8, 8, 9)
	pass(h, 1)
	coldest(t, h, 9, 8, 9) // 4 and 5
	pass(h, 1)
	coldest(t, h, 8, 8, 9) // 4 and 2.5
	h.Drop(9)
	coldest(t, h, 9, 8, 9)
}

// P12.2: there are none.
func TestColdestOfNothing(t *testing.T) {
	h := made(t, 2)
	h.Touch(5, -1)
	for _, h := range []*Heat{h, nil, {}} {
		for _, keys := range [][]int{nil, {}, []int{5, 6}[:0]} {
			if k, ok := h.Coldest(keys); k != 0 || ok {
				t.Errorf("Coldest of nothing: %d, %v", k, ok)
			}
		}
	}
}

// P12.2, R1: a nil one; and, beyond the promises, one that New did not make.
func TestNil(t *testing.T) {
	for _, h := range []*Heat{nil, {}} {
		for _, by := range edges() {
			for _, key := range keyEdges() {
				h.Touch(key, by)
				is(t, h, key, 0)
				h.Drop(key)
			}
		}
		h.Touch(2, -8)
		coldest(t, h, 1, 2, 1, 3)
		coldest(t, h, 3, 3)
		coldest(t, h, math.MinInt, keyEdges()...)
	}
}

// R4: a list stays as it is, and the room behind it is not read.
func TestColdestLeavesTheList(t *testing.T) {
	h := made(t, 2)
	h.Touch(1, -5)
	room := []int{7, 5, 6, 1, 2}
	coldest(t, h, 5, room[:3]...)
	if !slices.Equal(room, []int{7, 5, 6, 1, 2}) {
		t.Fatal(room)
	}
}

// R6: two of them share nothing.
func TestApart(t *testing.T) {
	a, b := made(t, 2), made(t, 2)
	a.Touch(1, 8)
	is(t, b, 1, 0)
	b.Touch(1, 4)
	pass(b, 6)
	is(t, a, 1, 8)
	is(t, b, 1, 0.5)
	b.Drop(1)
	is(t, a, 1, 8)
}

// book has all touches and drops, and works each heat out by the chapter's words.
type book struct {
	half, time int
	events     []event
}

type event struct {
	key, time int
	by        float64
	drop      bool
}

func brought(x float64) float64 {
	if x != x || x == 0 {
		return 0
	}
	return x
}

// faded halves by division, a half at a time, and not by real.
func faded(x float64, n int) float64 {
	for range n {
		x /= 2
	}
	return x
}

func (b *book) touch(key int, by float64) {
	b.time++
	b.events = append(b.events, event{key: key, time: b.time, by: by})
}

func (b *book) drop(key int) { b.events = append(b.events, event{key: key, drop: true}) }

func (b *book) of(key int) float64 {
	heat, at := 0.0, 0
	for _, e := range b.events {
		switch {
		case e.key != key:
		case e.drop:
			heat, at = 0, 0
		default:
			heat = brought(brought(faded(heat, (e.time-at)/b.half)) + e.by)
			at = e.time
		}
	}
	return brought(faded(heat, (b.time-at)/b.half))
}

// first sorts by heats, and by keys; the heats are never no number, nor -0.
func (b *book) first(keys []int) (int, bool) {
	if len(keys) == 0 {
		return 0, false
	}
	l := slices.Clone(keys)
	slices.Sort(l)
	slices.SortStableFunc(l, func(x, y int) int {
		switch p, q := b.of(x), b.of(y); {
		case p < q:
			return -1
		case p > q:
			return 1
		}
		return 0
	})
	return l[0], true
}

// run goes through steps that are told by bytes, with a Heat and its book; the
// Heat blind is asked at the end alone, as asking must change nothing.
func run(t testing.TB, steps []byte) {
	next := func() int {
		if len(steps) == 0 {
			return 0
		}
		n := steps[0]
		steps = steps[1:]
		return int(n)
	}
	half := []int{1, 1, 2, 3, 5, 16, 1000}[next()%7]
	h, blind := made(t, half), made(t, half)
	b := &book{half: half}
	numbers := edges()
	key := func() int { return next()%8 - 2 }
	for len(steps) > 0 {
		switch next() % 8 {
		case 0:
			k := key()
			h.Drop(k)
			blind.Drop(k)
			b.drop(k)
		case 1:
			k := key()
			is(t, h, k, b.of(k))
		case 2:
			keys := make([]int, next()%6)
			for i := range keys {
				keys[i] = key()
			}
			want, there := b.first(keys)
			if k, ok := h.Coldest(keys); k != want || ok != there {
				t.Fatalf("Coldest(%v) = %d, %v, not %d, %v", keys, k, ok, want, there)
			}
		default:
			k, n := key(), next()
			by := float64(n%9) - 2
			if n >= 128 {
				by = numbers[n%len(numbers)]
			}
			h.Touch(k, by)
			blind.Touch(k, by)
			b.touch(k, by)
			is(t, h, k, b.of(k))
		}
	}
	for k := -3; k <= 7; k++ {
		is(t, h, k, b.of(k))
		is(t, blind, k, b.of(k))
	}
}

// P12.1, P12.2 over many steps: all answers are those of the book.
func TestRandom(t *testing.T) {
	for seed := range int64(400) {
		r := rand.New(rand.NewSource(seed))
		steps := make([]byte, 500)
		r.Read(steps)
		run(t, steps)
	}
}

// P12.2: among many keys, in any order of the list.
func TestColdestAmongMany(t *testing.T) {
	r := rand.New(rand.NewSource(1))
	for range 50 {
		h, b := made(t, 5), &book{half: 5}
		for range 60 {
			key, by := r.Intn(40)-20, float64(r.Intn(5)-1)
			h.Touch(key, by)
			b.touch(key, by)
		}
		keys := r.Perm(40)[:1+r.Intn(40)]
		for i := range keys {
			keys[i] -= 20
		}
		want, _ := b.first(keys)
		for range 5 {
			coldest(t, h, want, keys...)
			r.Shuffle(len(keys), func(i, j int) { keys[i], keys[j] = keys[j], keys[i] })
		}
	}
}

func FuzzSteps(f *testing.F) {
	f.Add([]byte{2, 3, 3, 10, 3, 4, 3, 3, 4, 3, 1, 3, 2, 3, 3, 4, 5})
	f.Add([]byte{0, 3, 3, 161, 3, 3, 162, 1, 3, 0, 3})
	f.Fuzz(func(t *testing.T, steps []byte) { run(t, steps[:min(len(steps), 1000)]) })
}
