package real

import (
	"math"
	"math/big"
	"slices"
	"testing"
)

var (
	none    = math.NaN()
	high    = math.Inf(1)
	low     = math.Inf(-1)
	nought  = 0.0
	minus   = math.Copysign(0, -1)
	least   = math.SmallestNonzeroFloat64
	full    = math.Ldexp(1, -1022)
	under   = full - least
	over    = full + least
	most    = math.MaxFloat64
	oddNone = []uint64{0x7ff0000000000001, 0x7ff8000000000000, 0x7fffffffffffffff, 0xfff0000000000001, 0xfff8000000000000, 0xffffffffffffffff}
)

// ordered has numbers in the order, none twice.
func ordered() []float64 {
	return []float64{low, -most, -2.5, -1, -over, -full, -under, -2 * least, -least, minus,
		nought, least, 2 * least, under, full, over, 1, math.Nextafter(1, 2), 2.5, most, high, none}
}

// same holds numbers against each other by bits, all of no number being one.
func same(a, b float64) bool {
	return math.Float64bits(a) == math.Float64bits(b) || a != a && b != b
}

// many has numbers of all magnitudes: the edges, and bits from a fixed row.
func many() []float64 {
	l := ordered()
	for _, b := range oddNone {
		l = append(l, math.Float64frombits(b))
	}
	for e := uint64(0); e < 2048; e++ {
		for _, m := range []uint64{0, 1, 2, 3, 1<<52 - 2, 1<<52 - 1} {
			l = append(l, math.Float64frombits(e<<52|m), math.Float64frombits(1<<63|e<<52|m))
		}
	}
	b := uint64(1)
	for range 20000 {
		b = b*6364136223846793005 + 1442695040888963407
		l = append(l, math.Float64frombits(b), math.Float64frombits(b>>(b&63)))
	}
	return l
}

// P1.1: ranks.
func TestRank(t *testing.T) {
	for _, c := range []struct {
		x    float64
		rank int64
	}{
		{nought, 0}, {minus, -1}, {1, 4607182418800017408}, {-1, -4607182418800017409},
		{least, 1}, {-least, -2}, {2 * least, 2},
		{full, 1 << 52}, {under, 1<<52 - 1}, {over, 1<<52 + 1}, {-full, -1<<52 - 1}, {-under, -1 << 52},
		{most, 0x7fefffffffffffff}, {high, 0x7ff0000000000000},
		{-most, -0x7ff0000000000000}, {low, -0x7ff0000000000001},
		{none, math.MaxInt64},
	} {
		if r := Rank(c.x); r != c.rank {
			t.Errorf("Rank(%v) = %d, not %d", c.x, r, c.rank)
		}
	}
	for _, b := range oddNone {
		if r := Rank(math.Float64frombits(b)); r != math.MaxInt64 {
			t.Errorf("Rank of bits %x = %d", b, r)
		}
	}
}

// P1.1: the number with a rank, and what lies beyond the infinities' ranks.
func TestOf(t *testing.T) {
	const top = int64(0x7ff0000000000000)
	for _, c := range []struct {
		rank int64
		x    float64
	}{
		{0, nought}, {-1, minus}, {1, least}, {-2, -least}, {4607182418800017408, 1},
		{1 << 52, full}, {-1<<52 - 1, -full},
		{top - 1, most}, {top, high}, {top + 1, none}, {math.MaxInt64 - 1, none}, {math.MaxInt64, none},
		{-top, -most}, {-top - 1, low}, {-top - 2, low}, {math.MinInt64 + 1, low}, {math.MinInt64, low},
	} {
		if x := Of(c.rank); !same(x, c.x) {
			t.Errorf("Of(%d) = %v, not %v", c.rank, x, c.x)
		}
	}
	for _, x := range many() {
		if y := Of(Rank(x)); !same(x, y) {
			t.Fatalf("Of(Rank(%v)) = %v", x, y)
		}
	}
}

// P1.1: by how much ranks differ, whichever comes first.
func TestSteps(t *testing.T) {
	for _, c := range []struct {
		a, b float64
		n    uint64
	}{
		{minus, nought, 1}, {nought, nought, 0}, {none, none, 0}, {-least, least, 3}, {under, over, 2},
		{1, math.Nextafter(1, 2), 1}, {-1, math.Nextafter(-1, -2), 1}, {most, high, 1}, {low, -most, 1},
		{low, high, 0xffe0000000000001}, {high, none, 1<<52 - 1}, {low, none, 0xfff0000000000000},
		{-1, 1, 2*4607182418800017408 + 1},
	} {
		if n, m := Steps(c.a, c.b), Steps(c.b, c.a); n != c.n || m != c.n {
			t.Errorf("Steps(%v, %v) = %d and %d, not %d", c.a, c.b, n, m, c.n)
		}
	}
	l := many()
	for i, a := range l {
		b := l[len(l)-1-i]
		d := new(big.Int).Sub(big.NewInt(Rank(a)), big.NewInt(Rank(b)))
		if n := Steps(a, b); d.Abs(d).Cmp(new(big.Int).SetUint64(n)) != 0 {
			t.Fatalf("Steps(%v, %v) = %d, not %v", a, b, n, d)
		}
	}
}

// P1.2: the order.
func TestLess(t *testing.T) {
	l := ordered()
	for i, a := range l {
		for j, b := range l {
			if Less(a, b) != (i < j) {
				t.Errorf("Less(%v, %v) = %v", a, b, i >= j)
			}
		}
	}
	for _, b := range oddNone {
		x := math.Float64frombits(b)
		if Less(x, none) || Less(none, x) || Less(x, low) || !Less(high, x) {
			t.Errorf("bits %x have another place than no number", b)
		}
	}
	m := many()
	for i, a := range m {
		if b := m[len(m)-1-i]; a == a && b == b && a != b && Less(a, b) != (a < b) {
			t.Fatalf("Less(%v, %v) = %v", a, b, a >= b)
		}
	}
}

// P1.2: the first and the last one, wherever in the list they stand.
func TestMinMax(t *testing.T) {
	for _, l := range [][]float64{nil, {}, {none}, {none, none}} {
		if x, y := Min(l), Max(l); x == x || y == y {
			t.Errorf("%v: Min %v, Max %v", l, x, y)
		}
	}
	for _, x := range ordered() {
		if l := []float64{x}; !same(Min(l), x) || !same(Max(l), x) {
			t.Errorf("%v alone: Min %v, Max %v", x, Min(l), Max(l))
		}
	}
	for _, c := range []struct {
		l           []float64
		first, last float64
	}{
		{[]float64{nought, minus}, minus, nought}, {[]float64{minus, nought}, minus, nought},
		{[]float64{1, none}, 1, none}, {[]float64{none, 1}, 1, none}, {[]float64{none, high}, high, none},
		{[]float64{3, -2, 5, 5, 1}, -2, 5}, {[]float64{high, low}, low, high}, {[]float64{-1, -3}, -3, -1},
		{[]float64{low, low}, low, low}, {[]float64{least, -least, nought, minus}, -least, least},
	} {
		if x, y := Min(c.l), Max(c.l); !same(x, c.first) || !same(y, c.last) {
			t.Errorf("%v: Min %v, Max %v, not %v, %v", c.l, x, y, c.first, c.last)
		}
	}
	l := ordered()
	for i := range l {
		turned := append(slices.Clone(l[i:]), l[:i]...)
		if !same(Min(turned), low) || !same(Max(turned), none) {
			t.Errorf("turned by %d: Min %v, Max %v", i, Min(turned), Max(turned))
		}
	}
}

// R4: a list stays as it is, and the room behind it is not read.
func TestMinMaxLeaveTheList(t *testing.T) {
	room := []float64{2, 3, 1, low, none}
	l := room[:3]
	if Min(l) != 1 || Max(l) != 3 || Min(room[:0]) == Min(room[:0]) {
		t.Error("the room behind the list was read", Min(l), Max(l))
	}
	for i, x := range []float64{2, 3, 1, low, none} {
		if !same(room[i], x) {
			t.Errorf("place %d became %v", i, room[i])
		}
	}
}

// P1.2: Clamp, by places in the order for all triples, and by example.
func TestClamp(t *testing.T) {
	l := ordered()
	for x := range l {
		for a := range l {
			for b := range l {
				want := x
				if x < a || b < a {
					want = a
				} else if b < x {
					want = b
				}
				if y := Clamp(l[x], l[a], l[b]); !same(y, l[want]) {
					t.Fatalf("Clamp(%v, %v, %v) = %v, not %v", l[x], l[a], l[b], y, l[want])
				}
			}
		}
	}
	for _, c := range []struct{ x, low, high, want float64 }{
		{none, 0, 5, 5}, {3, 5, 1, 5}, {-1, 0, 5, 0}, {3, 0, 5, 3}, {7, 0, 5, 5},
		{minus, nought, 5, nought}, {nought, -5, minus, minus}, {1, none, 5, none}, {none, none, none, none}, {6, 0, none, 6},
	} {
		if y := Clamp(c.x, c.low, c.high); !same(y, c.want) {
			t.Errorf("Clamp(%v, %v, %v) = %v, not %v", c.x, c.low, c.high, y, c.want)
		}
	}
}

// P1.3: halves, by example.
func TestFade(t *testing.T) {
	for _, c := range []struct {
		x    float64
		n    int
		want float64
	}{
		{3, 1, 1.5}, {-3, 1, -1.5}, {8, 3, 1}, {8, 0, 8}, {8, -1, 8}, {8, math.MinInt, 8},
		{3 * least, 1, 2 * least}, {3 * least, 2, least}, {3 * least, 3, nought}, {3 * least, 4, nought},
		{-3 * least, 1, -2 * least}, {-3 * least, 3, minus},
		{least, 1, nought}, {-least, 1, minus}, {2 * least, 1, least},
		{5 * least, 1, 2 * least}, {7 * least, 1, 4 * least},
		{full, 1, math.Float64frombits(1 << 51)}, {under, 1, math.Float64frombits(1 << 51)}, {over, 1, math.Float64frombits(1 << 51)},
		{2 * full, 1, full}, {math.Nextafter(2*full, 0), 1, full}, {math.Nextafter(2*full, 1), 1, math.Nextafter(full, 1)},
		{full, 52, least}, {full, 53, nought}, {-full, 53, minus},
		{1, 1074, least}, {1, 1075, nought}, {1.5, 1074, 2 * least}, {most, 1, math.Float64frombits(0x7fdfffffffffffff)},
		{most, math.MaxInt, nought}, {-most, math.MaxInt, minus},
		{nought, 9, nought}, {minus, 9, minus}, {nought, math.MaxInt, nought}, {minus, math.MaxInt, minus}, {minus, 0, minus},
		{high, 9, high}, {low, 9, low}, {none, 9, none}, {high, math.MaxInt, high}, {low, 0, low}, {none, -1, none},
	} {
		if y := Fade(c.x, c.n); !same(y, c.want) {
			t.Errorf("Fade(%v, %d) = %v, not %v", c.x, c.n, y, c.want)
		}
	}
}

// P1.3: each half is the nearest number, worked out without rounding, and n
// halves are one behind the other.
func TestFadeIsNearest(t *testing.T) {
	for _, x := range many() {
		y := Fade(x, 1)
		if x != x || math.IsInf(x, 0) {
			if !same(x, y) {
				t.Fatalf("Fade(%v, 1) = %v", x, y)
			}
			continue
		}
		if math.Signbit(x) != math.Signbit(y) || !nearestHalf(x, y) {
			t.Fatalf("Fade(%v, 1) = %v", x, y)
		}
		for n := range 4 {
			if a, b := Fade(Fade(x, n), 1), Fade(x, n+1); !same(a, b) {
				t.Fatalf("Fade(%v, %d) = %v, but one by one %v", x, n+1, b, a)
			}
		}
	}
}

// nearestHalf: is no number nearer to the half of x than y, and the one that
// is as near not the even one?
func nearestHalf(x, y float64) bool {
	half := new(big.Rat).Quo(new(big.Rat).SetFloat64(x), big.NewRat(2, 1))
	gap := func(z float64) *big.Rat {
		d := new(big.Rat).Sub(new(big.Rat).SetFloat64(z), half)
		return d.Abs(d)
	}
	for _, z := range []float64{math.Nextafter(y, low), math.Nextafter(y, high)} {
		if c := gap(y).Cmp(gap(z)); c > 0 || c == 0 && math.Float64bits(y)&1 == 1 {
			return false
		}
	}
	return true
}

// P1.4: classes, at all their borders.
func TestClass(t *testing.T) {
	for _, c := range []struct {
		x    float64
		want int
	}{
		{none, 0}, {low, 1},
		{-most, 2}, {-1, 2}, {-over, 2}, {-full, 2}, {-under, 3}, {-least, 3},
		{minus, 4}, {nought, 5},
		{least, 6}, {under, 6}, {full, 7}, {over, 7}, {1, 7}, {most, 7},
		{high, 8},
	} {
		if k := Class(c.x); k != c.want {
			t.Errorf("Class(%v) = %d, not %d", c.x, k, c.want)
		}
	}
	for _, b := range oddNone {
		if k := Class(math.Float64frombits(b)); k != 0 {
			t.Errorf("Class of bits %x = %d", b, k)
		}
	}
	for _, x := range many() {
		if x == x && !math.Signbit(x) && Class(x)+Class(-x) != 9 {
			t.Fatalf("Class(%v) = %d, but %d below 0", x, Class(x), Class(-x))
		}
	}
}
