package plan

import (
	"math"
	"math/rand"
	"reflect"
	"slices"
	"testing"

	"thimble/api"
)

// numbers are those at the ends of their kind, and near to nought.
func numbers() []int {
	return []int{math.MinInt, math.MinInt + 1, math.MinInt32, -4097, -17, -1, 0, 1, 16, 257, 4097, math.MaxInt32, math.MaxInt - 1, math.MaxInt}
}

// pageCases are counts of pages: all small ones, and those about which a counter
// block, a node or a level begins.
func pageCases() []int {
	var l []int
	for n := 1; n <= 300; n++ {
		l = append(l, n)
	}
	for _, n := range []int{1024, 2048, 4096} {
		for by := -130; by <= 130; by++ {
			l = append(l, n+by)
		}
	}
	for n := 320; n <= 4096; n += 128 {
		l = append(l, n-1, n, n+1)
	}
	slices.Sort(l)
	l = slices.Compact(l)
	for l[len(l)-1] > api.MaxPages {
		l = l[:len(l)-1]
	}
	return l
}

func made(t testing.TB, pages, budget int) api.Plan {
	t.Helper()
	p, e := Of(pages, budget)
	if e != api.OK {
		t.Fatalf("Of(%d, %d): %d", pages, budget, e)
	}
	return p
}

// book goes the chapter's words: it lays block behind block, and gives each of
// them its parent one by one.
type book struct {
	plan  api.Plan
	place map[int]api.Place // of each block of the tree but the top
	top   int
}

// group gives each of these blocks, from the first one on, a place in blocks of
// so many, that are laid from next on; it tells how many those are.
func (b *book) group(first, many, size, next int) int {
	groups := 0
	for i := range many {
		if i == groups*size {
			groups++
		}
		b.place[first+i] = api.Place{Block: next + groups - 1, At: i - (groups-1)*size}
	}
	return groups
}

func newBook(pages, budget int) *book {
	b := &book{place: make(map[int]api.Place)}
	b.plan = api.Plan{Pages: pages, Budget: budget}
	b.plan.Counters = b.group(0, pages, 16, pages)
	first, many := pages, b.plan.Counters
	for len(b.plan.Levels) == 0 || many > 1 {
		next := first + many
		first, many = next, b.group(first, many, 8, next)
		b.plan.Levels = append(b.plan.Levels, many)
		b.plan.Nodes += many
	}
	b.top = first
	b.plan.Head = first + many
	for bytes := 12 + 4*budget; bytes > 0; bytes -= 256 {
		b.plan.Heads++
	}
	b.plan.Journal = b.plan.Head + b.plan.Heads
	b.plan.Spill = b.plan.Journal + budget
	b.plan.Total = b.plan.Spill + budget
	return b
}

// path goes from parent to parent.
func (b *book) path(page int) []int {
	var l []int
	for block := page; block != b.top; {
		block = b.place[block].Block
		l = append(l, block)
	}
	return l
}

// need lays all blocks that are written into a list, and drops those that are
// there twice.
func (b *book) need(pages []int) int {
	var l []int
	for _, page := range pages {
		if page >= 0 && page < b.plan.Pages {
			l = append(append(l, page), b.path(page)...)
		}
	}
	slices.Sort(l)
	return len(slices.Compact(l))
}

// The chapter's examples.
func TestExamples(t *testing.T) {
	p := made(t, 20, 4)
	want := api.Plan{Pages: 20, Budget: 4, Counters: 2, Levels: []int{1}, Nodes: 1, Head: 23, Heads: 1, Journal: 24, Spill: 28, Total: 32}
	if !reflect.DeepEqual(p, want) {
		t.Errorf("Of(20, 4) = %+v", p)
	}
	if l, e := Path(p, 17); !slices.Equal(l, []int{21, 22}) || e != api.OK {
		t.Errorf("Path(17) = %v, %d", l, e)
	}
	if x, e := Parent(p, 17); x != (api.Place{Block: 21, At: 1}) || e != api.OK {
		t.Errorf("Parent(17) = %v, %d", x, e)
	}
	if n := Need(p, []int{0, 1, 17}); n != 6 {
		t.Errorf("Need(0, 1, 17) = %d", n)
	}
}

// P16.1: plans at the edges of levels, and of the journal's head, by hand.
func TestOfByHand(t *testing.T) {
	for _, want := range []api.Plan{
		{Pages: 1, Budget: 1, Counters: 1, Levels: []int{1}, Nodes: 1, Head: 3, Heads: 1, Journal: 4, Spill: 5, Total: 6},
		{Pages: 16, Budget: 61, Counters: 1, Levels: []int{1}, Nodes: 1, Head: 18, Heads: 1, Journal: 19, Spill: 80, Total: 141},
		{Pages: 17, Budget: 62, Counters: 2, Levels: []int{1}, Nodes: 1, Head: 20, Heads: 2, Journal: 22, Spill: 84, Total: 146},
		{Pages: 128, Budget: 125, Counters: 8, Levels: []int{1}, Nodes: 1, Head: 137, Heads: 2, Journal: 139, Spill: 264, Total: 389},
		{Pages: 129, Budget: 126, Counters: 9, Levels: []int{2, 1}, Nodes: 3, Head: 141, Heads: 3, Journal: 144, Spill: 270, Total: 396},
		{Pages: 1024, Budget: 3, Counters: 64, Levels: []int{8, 1}, Nodes: 9, Head: 1097, Heads: 1, Journal: 1098, Spill: 1101, Total: 1104},
		{Pages: 1025, Budget: 3, Counters: 65, Levels: []int{9, 2, 1}, Nodes: 12, Head: 1102, Heads: 1, Journal: 1103, Spill: 1106, Total: 1109},
		{Pages: 4096, Budget: 256, Counters: 256, Levels: []int{32, 4, 1}, Nodes: 37, Head: 4389, Heads: 5, Journal: 4394, Spill: 4650, Total: 4906},
	} {
		if p := made(t, want.Pages, want.Budget); !reflect.DeepEqual(p, want) {
			t.Errorf("Of(%d, %d) = %+v, not %+v", want.Pages, want.Budget, p, want)
		}
	}
}

// P16.1: all counts of pages, and all budgets.
func TestOf(t *testing.T) {
	for pages := 1; pages <= api.MaxPages; pages++ {
		budget := 1 + pages%api.MaxBudget
		if p, b := made(t, pages, budget), newBook(pages, budget); !reflect.DeepEqual(p, b.plan) {
			t.Fatalf("Of(%d, %d) = %+v, not %+v", pages, budget, p, b.plan)
		}
	}
	for budget := 1; budget <= api.MaxBudget; budget++ {
		for _, pages := range []int{1, 20, 129, 4096} {
			if p, b := made(t, pages, budget), newBook(pages, budget); !reflect.DeepEqual(p, b.plan) {
				t.Fatalf("Of(%d, %d) = %+v, not %+v", pages, budget, p, b.plan)
			}
		}
	}
}

// P16.1: ErrArg, of either number or of both, and nothing beside it.
func TestOfWrong(t *testing.T) {
	for _, pages := range append(numbers(), 4095, 4096) {
		for _, budget := range append(numbers(), 255, 256) {
			wrong := pages < 1 || pages > 4096 || budget < 1 || budget > 256
			p, e := Of(pages, budget)
			if wrong && (e != api.ErrArg || !reflect.DeepEqual(p, api.Plan{})) {
				t.Errorf("Of(%d, %d) = %+v, %d", pages, budget, p, e)
			}
			if !wrong && e != api.OK {
				t.Errorf("Of(%d, %d): %d", pages, budget, e)
			}
		}
	}
}

// P16.2: the place of each block, of the top, and of all that is none of these.
func TestParent(t *testing.T) {
	for _, pages := range pageCases() {
		b := newBook(pages, 7)
		p := made(t, pages, 7)
		if Top(p) != b.top {
			t.Fatalf("%d pages: Top = %d, not %d", pages, Top(p), b.top)
		}
		for block := -3; block < p.Total+3; block++ {
			want, e := b.place[block], api.OK
			if block == b.top {
				e = api.ErrNone
			} else if block < 0 || block > b.top {
				e = api.ErrArg
			}
			if x, got := Parent(p, block); x != want || got != e {
				t.Fatalf("%d pages: Parent(%d) = %v, %d, not %v, %d", pages, block, x, got, want, e)
			}
		}
		for _, block := range numbers() {
			if x, e := Parent(p, block); (block < 0 || block > b.top) && (x != api.Place{} || e != api.ErrArg) {
				t.Fatalf("%d pages: Parent(%d) = %v, %d", pages, block, x, e)
			}
		}
	}
}

// P16.2: no two blocks have one place, and no place is beyond its block.
func TestPlacesApart(t *testing.T) {
	for _, pages := range []int{1, 16, 17, 128, 129, 1024, 1025, 4095, 4096} {
		p := made(t, pages, 1)
		seen := make(map[api.Place]int)
		for block := range Top(p) {
			x, e := Parent(p, block)
			if other, twice := seen[x]; twice || e != api.OK {
				t.Fatalf("%d pages: Parent(%d) = %v, %d, as of %d", pages, block, x, e, other)
			}
			size := api.Fan
			if block < pages {
				size = api.Entries
			}
			if x.At < 0 || x.At >= size || x.Block <= block || x.Block > Top(p) {
				t.Fatalf("%d pages: Parent(%d) = %v", pages, block, x)
			}
			seen[x] = block
		}
	}
}

// P16.2: the path of each page, and of those that aren't there.
func TestPath(t *testing.T) {
	for _, pages := range pageCases() {
		b := newBook(pages, 7)
		p := made(t, pages, 7)
		for page := range pages {
			if l, e := Path(p, page); !slices.Equal(l, b.path(page)) || e != api.OK {
				t.Fatalf("%d pages: Path(%d) = %v, %d, not %v", pages, page, l, e, b.path(page))
			}
		}
		for _, page := range append(numbers(), pages, pages+1, Top(p), p.Head, p.Spill, p.Total) {
			if page >= 0 && page < pages {
				continue
			}
			if l, e := Path(p, page); len(l) != 0 || e != api.ErrArg {
				t.Fatalf("%d pages: Path(%d) = %v, %d", pages, page, l, e)
			}
		}
	}
}

// P16.2: paths of the greatest plan, by hand.
func TestPathByHand(t *testing.T) {
	p := made(t, 4096, 256)
	for page, want := range map[int][]int{
		0:    {4096, 4352, 4384, 4388},
		15:   {4096, 4352, 4384, 4388},
		16:   {4097, 4352, 4384, 4388},
		127:  {4103, 4352, 4384, 4388},
		128:  {4104, 4353, 4384, 4388},
		1024: {4160, 4360, 4385, 4388},
		4095: {4351, 4383, 4387, 4388},
	} {
		if l, e := Path(p, page); !slices.Equal(l, want) || e != api.OK {
			t.Errorf("Path(%d) = %v, %d, not %v", page, l, e, want)
		}
	}
}

// P16.3: nothing, one, all, twice, and those that aren't there.
func TestNeedByHand(t *testing.T) {
	p := made(t, 20, 4)
	for _, c := range []struct {
		pages []int
		want  int
	}{
		{nil, 0}, {[]int{}, 0}, {[]int{0}, 3}, {[]int{19}, 3}, {[]int{0, 0, 0}, 3}, {[]int{0, 15}, 4}, {[]int{15, 16}, 5},
		{[]int{17, 1, 0, 17, 1}, 6}, {[]int{20}, 0}, {[]int{-1}, 0}, {numbers(), 6}, {[]int{21, 22, 23, 24, 28, 31}, 0},
		{[]int{-1, 3, 20}, 3}, {[]int{20, math.MinInt, 3, math.MaxInt, 3}, 3},
	} {
		if n := Need(p, c.pages); n != c.want {
			t.Errorf("Need(%v) = %d, not %d", c.pages, n, c.want)
		}
	}
	great := made(t, 4096, 1)
	var all []int
	for page := range 4096 {
		all = append(all, page)
		if n := Need(great, []int{page}); n != 5 {
			t.Fatalf("Need(%d) = %d, not 5", page, n)
		}
	}
	if n := Need(great, all); n != 4096+256+37 {
		t.Errorf("Need of all pages = %d", n)
	}
}

// P16.3: all pairs of pages, of plans of one level, of two and of three.
func TestNeedPairs(t *testing.T) {
	for _, c := range []struct{ pages, by int }{{1, 1}, {40, 1}, {300, 7}, {1100, 15}, {4096, 31}} {
		b := newBook(c.pages, 9)
		p := made(t, c.pages, 9)
		for x := 0; x < c.pages; x += c.by {
			for y := 0; y < c.pages; y += c.by {
				if n, want := Need(p, []int{x, y}), b.need([]int{x, y}); n != want {
					t.Fatalf("%d pages: Need(%d, %d) = %d, not %d", c.pages, x, y, n, want)
				}
			}
		}
	}
}

// P16.3: lists of any length and order, some pages twice, some not there; and
// the order plays no part.
func TestNeedRandom(t *testing.T) {
	for seed := range int64(1500) {
		g := rand.New(rand.NewSource(seed))
		pages := 1 + g.Intn(api.MaxPages)>>g.Intn(12)
		b := newBook(pages, 1)
		p := made(t, pages, 1)
		l := make([]int, g.Intn(60))
		for i := range l {
			l[i] = g.Intn(pages+pages/4+4) - 2
		}
		want := b.need(l)
		for range 2 {
			if n := Need(p, l); n != want {
				t.Fatalf("%d pages: Need(%v) = %d, not %d", pages, l, n, want)
			}
			g.Shuffle(len(l), func(i, j int) { l[i], l[j] = l[j], l[i] })
		}
	}
}

// R4: what is answered is new memory, each time.
func TestNewMemory(t *testing.T) {
	p, q := made(t, 4096, 4), made(t, 4096, 4)
	for i := range q.Levels {
		q.Levels[i] = -1
	}
	if !slices.Equal(p.Levels, []int{32, 4, 1}) || !slices.Equal(made(t, 4096, 4).Levels, []int{32, 4, 1}) {
		t.Fatal("plans share their levels")
	}
	a, _ := Path(p, 5)
	b, _ := Path(p, 5)
	for i := range a {
		a[i] = -1
	}
	again, _ := Path(p, 5)
	if !slices.Equal(b, []int{4096, 4352, 4384, 4388}) || !slices.Equal(again, b) || !slices.Equal(p.Levels, []int{32, 4, 1}) {
		t.Fatal("paths share memory")
	}
}

// R4: neither what is handed in changes, nor the room behind it, which isn't
// read either.
func TestHandedIn(t *testing.T) {
	room := []int{17, 0, 17, 99, 3, 4, 5}
	levels := []int{1, 7, 7, 7}
	p := made(t, 20, 4)
	p.Levels = levels[:1]
	if n := Need(p, room[:4]); n != 5 {
		t.Errorf("Need = %d, not 5", n)
	}
	for block := range p.Total {
		Parent(p, block)
		Path(p, block)
	}
	if l, _ := Path(p, 17); !slices.Equal(l, []int{21, 22}) || Top(p) != 22 {
		t.Errorf("Path(17) = %v, Top = %d", l, Top(p))
	}
	if !slices.Equal(room, []int{17, 0, 17, 99, 3, 4, 5}) || !slices.Equal(levels, []int{1, 7, 7, 7}) {
		t.Error("what was handed in changed")
	}
}

// ask makes all calls on a plan, whatever it is; none may panic.
func ask(p api.Plan, list []int) {
	Top(p)
	for _, n := range list {
		Parent(p, n)
		Path(p, n)
	}
	Need(p, list)
}

// R1: plans that Of did not make: each call ends, without a panic.
func TestOtherPlans(t *testing.T) {
	ask(api.Plan{}, numbers())
	for seed := range int64(3000) {
		g := rand.New(rand.NewSource(seed))
		any := func() int {
			if l := numbers(); g.Intn(3) > 0 {
				return l[g.Intn(len(l))]
			}
			return g.Intn(600) - 300
		}
		p := api.Plan{}
		if g.Intn(2) == 0 {
			p = made(t, 1+g.Intn(4096), 1+g.Intn(256))
		}
		for _, field := range []*int{&p.Pages, &p.Budget, &p.Counters, &p.Nodes, &p.Head, &p.Heads, &p.Journal, &p.Spill, &p.Total} {
			if g.Intn(3) == 0 {
				*field = any()
			}
		}
		if g.Intn(2) == 0 {
			p.Levels = make([]int, g.Intn(40))
			for i := range p.Levels {
				p.Levels[i] = any()
			}
		}
		list := append(numbers(), any(), any(), any())
		kept := slices.Clone(p.Levels)
		ask(p, list)
		if !slices.Equal(kept, p.Levels) {
			t.Fatal("the levels changed")
		}
	}
}

// R1: with very many levels and very many pages the calls end, and soon: were
// each level gone through for each page, the tests' own bound of time would end it.
func TestOtherPlansEndSoon(t *testing.T) {
	const many = 1 << 17
	pages := make([]int, many)
	for i := range pages {
		pages[i] = i * 4099
	}
	for _, nodes := range []int{0, 1, -1, 5, math.MaxInt, math.MinInt} {
		levels := make([]int, many)
		for i := range levels {
			levels[i] = nodes
		}
		p := api.Plan{Pages: math.MaxInt, Counters: 1, Levels: levels, Nodes: nodes}
		Need(p, pages)
		ask(p, numbers())
	}
}

func FuzzNeed(f *testing.F) {
	f.Add(uint16(20), []byte{0, 0, 0, 1, 0, 17})
	f.Add(uint16(4095), []byte{0xff, 0xff, 0x0f, 0xff, 0x10, 0x00})
	f.Fuzz(func(t *testing.T, n uint16, s []byte) {
		pages := 1 + int(n)%api.MaxPages
		var list []int
		for i := 0; i+1 < len(s) && i < 400; i += 2 {
			list = append(list, int(int16(uint16(s[i])<<8|uint16(s[i+1]))))
		}
		if n, want := Need(made(t, pages, 1), list), newBook(pages, 1).need(list); n != want {
			t.Errorf("%d pages: Need(%v) = %d, not %d", pages, list, n, want)
		}
	})
}
