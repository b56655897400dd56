package fair

import (
	"math"
	"math/rand"
	"slices"
	"testing"

	"thimble/api"
)

var (
	none  = math.NaN()
	high  = math.Inf(1)
	low   = math.Inf(-1)
	minus = math.Copysign(0, -1)
	least = math.SmallestNonzeroFloat64
	full  = math.Ldexp(1, -1022)
	most  = math.MaxFloat64
)

// weightCases are weights that anybody may hand in, and what is made of them.
func weightCases() []struct{ w, want float64 } {
	const small, great = 1.0 / 1024, 1024.0
	l := []struct{ w, want float64 }{
		{none, 1}, {high, great}, {low, small}, {0, small}, {minus, small},
		{least, small}, {-least, small}, {full, small}, {-full, small}, {most, great}, {-most, small},
		{1, 1}, {-1, small}, {0.1, 0.1}, {3, 3}, {-3, small}, {1e300, great}, {1e-300, small},
		{small, small}, {-small, small}, {math.Nextafter(small, 0), small}, {math.Nextafter(small, 1), math.Nextafter(small, 1)},
		{great, great}, {-great, small}, {math.Nextafter(great, high), great}, {math.Nextafter(great, 0), math.Nextafter(great, 0)},
	}
	for _, b := range []uint64{0x7ff0000000000001, 0x7fffffffffffffff, 0xfff0000000000001, 0xfff8000000000000, 0xffffffffffffffff} {
		l = append(l, struct{ w, want float64 }{math.Float64frombits(b), 1})
	}
	return l
}

// numbers are those at the ends of their kind, and near to nought.
func numbers() []int {
	return []int{math.MinInt, math.MinInt + 1, math.MinInt32, -9, -8, -2, -1, 0, 1, 2, 7, 8, 9, math.MaxInt32, math.MaxInt - 1, math.MaxInt}
}

func made(t testing.TB, n int) *Row {
	t.Helper()
	r, e := New(n)
	if r == nil || e != api.OK {
		t.Fatalf("New(%d): %v, %d", n, r, e)
	}
	return r
}

func is(t testing.TB, got, want api.Errno) {
	t.Helper()
	if got != want {
		t.Fatalf("the answer is %d, not %d", got, want)
	}
}

// wake wakes tasks, one behind the other.
func wake(t testing.TB, r *Row, tasks ...int) {
	t.Helper()
	for _, task := range tasks {
		is(t, r.Wake(task), api.OK)
	}
}

// awake asks twice, as asking changes nothing, and writes into what it was told,
// as that is nobody else's.
func awake(t testing.TB, r *Row, want ...int) {
	t.Helper()
	for range 2 {
		got := r.Awake()
		if !slices.Equal(got, want) {
			t.Fatalf("Awake() = %v, not %v", got, want)
		}
		for i := range got {
			got[i] = -5
		}
	}
}

// pass holds a pass by its bits.
func pass(t testing.TB, r *Row, task int, want float64) {
	t.Helper()
	for range 2 {
		if got := r.Pass(task); math.Float64bits(got) != math.Float64bits(want) {
			t.Fatalf("Pass(%d) = %v, not %v", task, got, want)
		}
	}
}

func pick(t testing.TB, r *Row, n, want int) {
	t.Helper()
	for range 2 {
		if got, ok := r.Pick(n); got != want || !ok {
			t.Fatalf("Pick(%d) = %d, %v, not %d, true", n, got, ok, want)
		}
	}
}

// next takes a turn for each of want.
func next(t testing.TB, r *Row, want ...int) {
	t.Helper()
	for i, task := range want {
		if got, ok := r.Next(); got != task || !ok {
			t.Fatalf("turn %d: Next() = %d, %v, not %d, true", i, got, ok, task)
		}
	}
}

// nobody holds that no task is awake.
func nobody(t testing.TB, r *Row) {
	t.Helper()
	awake(t, r)
	for _, n := range numbers() {
		if got, ok := r.Pick(n); got != 0 || ok {
			t.Fatalf("Pick(%d) = %d, %v, not 0, false", n, got, ok)
		}
	}
	if got, ok := r.Next(); got != 0 || ok {
		t.Fatalf("Next() = %d, %v, not 0, false", got, ok)
	}
}

// The chapter's examples.
func TestExamples(t *testing.T) {
	r := made(t, 3)
	wake(t, r, 0, 1)
	is(t, r.Weight(1, 2), api.OK)
	next(t, r, 0, 1, 1, 0)
	pick(t, r, -1, 1)
}

// P15.1: how many tasks there may be, and what they are at first.
func TestNew(t *testing.T) {
	for n := 1; n <= api.MaxSessions; n++ {
		r := made(t, n)
		nobody(t, r)
		for task := range n {
			pass(t, r, task, 0)
			wake(t, r, task)
			awake(t, r, task)
			next(t, r, task)
			pass(t, r, task, 1) // its weight is 1
			is(t, r.Sleep(task), api.OK)
		}
		nobody(t, r)
	}
	for _, n := range append(numbers(), -1, 0, api.MaxSessions+1) {
		if n >= 1 && n <= api.MaxSessions {
			continue
		}
		if r, e := New(n); r != nil || e != api.ErrArg {
			t.Errorf("New(%d): %v, %d, not nil, ErrArg", n, r, e)
		}
	}
}

// P15.1: two rows have nothing in common.
func TestRowsApart(t *testing.T) {
	a, b := made(t, 2), made(t, 2)
	wake(t, a, 1)
	is(t, a.Weight(1, 4), api.OK)
	next(t, a, 1, 1)
	nobody(t, b)
	wake(t, b, 1)
	next(t, b, 1)
	pass(t, a, 1, 0.5)
	pass(t, b, 1, 1)
}

// P15.1: there is no such task: ErrArg, and nothing has changed.
func TestNoSuchTask(t *testing.T) {
	for n := 1; n <= api.MaxSessions; n++ {
		r := made(t, n)
		wake(t, r, n-1)
		next(t, r, n-1)
		for _, task := range append(numbers(), n) {
			if task >= 0 && task < n {
				continue
			}
			is(t, r.Weight(task, 5), api.ErrArg)
			is(t, r.Weight(task, none), api.ErrArg)
			is(t, r.Wake(task), api.ErrArg)
			is(t, r.Sleep(task), api.ErrArg)
			pass(t, r, task, 0)
			awake(t, r, n-1)
		}
		next(t, r, n-1)
		pass(t, r, n-1, 2)
	}
}

// P15.1: a weight is brought right, of one that is awake and of one that is not.
func TestWeight(t *testing.T) {
	for _, c := range weightCases() {
		for _, first := range []bool{false, true} {
			r := made(t, 2)
			if first {
				wake(t, r, 1)
			}
			is(t, r.Weight(1, c.w), api.OK)
			pass(t, r, 1, 0)
			wake(t, r, 1)
			next(t, r, 1)
			pass(t, r, 1, 1/c.want)
			is(t, r.Sleep(1), api.OK)
			wake(t, r, 0)
			next(t, r, 0)
			pass(t, r, 0, 1) // the other one's stays
		}
	}
}

// P15.1: the last weight holds, from the next turn on; sleep takes none away.
func TestWeightAnew(t *testing.T) {
	r := made(t, 1)
	wake(t, r, 0)
	want := 0.0
	for _, c := range weightCases() {
		is(t, r.Weight(0, 7), api.OK)
		is(t, r.Weight(0, c.w), api.OK)
		pass(t, r, 0, want)
		next(t, r, 0)
		want += 1 / c.want
		pass(t, r, 0, want)
		is(t, r.Sleep(0), api.OK)
		wake(t, r, 0)
		next(t, r, 0)
		want += 1 / c.want
		pass(t, r, 0, want)
	}
}

// P15.1: who is awake, and that waking or sleeping twice is like once.
func TestAwake(t *testing.T) {
	r := made(t, 8)
	wake(t, r, 5, 2, 7, 2, 0, 5)
	awake(t, r, 0, 2, 5, 7)
	is(t, r.Sleep(2), api.OK)
	is(t, r.Sleep(2), api.OK)
	is(t, r.Sleep(3), api.OK)
	awake(t, r, 0, 5, 7)
	wake(t, r, 1, 2, 3, 4, 6)
	awake(t, r, 0, 1, 2, 3, 4, 5, 6, 7)
	for task := range 8 {
		is(t, r.Sleep(task), api.OK)
	}
	nobody(t, r)
}

// P15.1: who wakes comes in between the first pass of the others and 1024 behind
// it; beside nobody its pass stays.
func TestWake(t *testing.T) {
	for _, c := range []struct{ pass, first, want float64 }{
		{0, 0, 0}, {0, 5, 5}, {4.5, 5, 5}, {5, 5, 5}, {5.5, 5, 5.5},
		{1028.5, 5, 1028.5}, {1029, 5, 1029}, {1029.5, 5, 1029}, {1024, 0, 1024}, {1025, 0, 1024},
		{math.Nextafter(1024, high), 0, 1024}, {math.Nextafter(1024, 0), 0, math.Nextafter(1024, 0)},
		{math.Nextafter(5, 0), 5, 5}, {math.Nextafter(5, 6), 5, math.Nextafter(5, 6)}, {1 << 50, 3, 1027}, {3, 1 << 50, 1 << 50},
	} {
		r := made(t, 4)
		r.tasks[0].pass, r.tasks[1].pass, r.tasks[2].pass, r.tasks[3].pass = c.first+700, c.pass, c.first, c.first/2
		is(t, r.Wake(1), api.OK)
		pass(t, r, 1, c.pass) // nobody else is awake
		is(t, r.Sleep(1), api.OK)
		wake(t, r, 2, 0) // task 3 is behind, and sleeps: it plays no part
		wake(t, r, 1)
		pass(t, r, 1, c.want)
		pass(t, r, 0, c.first+700)
		pass(t, r, 2, c.first)
		pass(t, r, 3, c.first/2)
	}
}

// P15.1: who is awake already keeps its pass, wherever the others are.
func TestWakeTwice(t *testing.T) {
	r := made(t, 2)
	wake(t, r, 0, 1)
	r.tasks[0].pass = 3000
	wake(t, r, 0, 1)
	pass(t, r, 0, 3000)
	pass(t, r, 1, 0)
	r.tasks[1].pass = 7000
	wake(t, r, 0, 1)
	pass(t, r, 0, 3000)
	pass(t, r, 1, 7000)
}

// P15.1: sleep leaves all passes; who wakes last has no turns to make up for.
func TestSleep(t *testing.T) {
	r := made(t, 3)
	wake(t, r, 0, 1, 2)
	next(t, r, 0, 1, 2)
	is(t, r.Sleep(1), api.OK)
	next(t, r, 0, 2, 0, 2, 0, 2)
	pass(t, r, 1, 1)
	wake(t, r, 1)
	pass(t, r, 1, 4)
	next(t, r, 0, 1, 2, 0, 1, 2)
	for task := range 3 {
		is(t, r.Sleep(task), api.OK)
	}
	for task := range 3 {
		pass(t, r, task, 6)
	}
	nobody(t, r)
}

// P15.2: the place is the number modulo k, of those that are awake alone.
func TestPick(t *testing.T) {
	r := made(t, 8)
	wake(t, r, 6, 1, 4)
	for n, want := range map[int]int{0: 1, 1: 4, 2: 6, 3: 1, 4: 4, 5: 6, -1: 6, -2: 4, -3: 1, -4: 6, 300: 1, -301: 6} {
		pick(t, r, n, want)
	}
	for n := 1; n <= 8; n++ {
		r := made(t, n)
		for task := range n {
			wake(t, r, task)
			k := task + 1
			for _, x := range numbers() {
				want := x % k
				if want < 0 {
					want += k
				}
				pick(t, r, x, want)
			}
		}
	}
	one := made(t, 8)
	wake(t, one, 7)
	for _, n := range numbers() {
		pick(t, one, n, 7)
	}
}

// P15.2: a pick changes nothing: neither who is next, nor a pass.
func TestPickChangesNothing(t *testing.T) {
	r := made(t, 3)
	wake(t, r, 0, 2)
	for n := -20; n < 20; n++ {
		r.Pick(n)
	}
	awake(t, r, 0, 2)
	pass(t, r, 0, 0)
	pass(t, r, 2, 0)
	next(t, r, 0, 2, 0)
}

// P15.2: the first pass is next, of several the least task; whoever sleeps is
// left out, however far behind.
func TestNext(t *testing.T) {
	r := made(t, 5)
	wake(t, r, 1, 2, 3, 4)
	for i, p := range []float64{0, 5, 3, 4, 3} {
		r.tasks[i].pass = p
	}
	next(t, r, 2, 4, 2, 3, 4, 1, 2, 3, 4)
	pass(t, r, 0, 0)
	r.tasks[3].pass = math.Nextafter(6, 0)
	next(t, r, 3, 1, 2)
}

// P15.2: a pass and 1 / its weight are added as numbers of binary64 are.
func TestNextAdds(t *testing.T) {
	for _, c := range []struct{ pass, weight, want float64 }{
		{0, 3, 1.0 / 3}, {1, 3, 1 + 1.0/3}, {0.1, 10, 0.2}, {0.1, 5, 0.30000000000000004}, {1 << 50, 1024, 1 << 50},
		{1 << 50, 8, 1 << 50}, {1<<50 + 0.25, 8, 1<<50 + 0.5}, {1 << 50, 7, 1<<50 + 0.25}, {1 << 20, 1.0 / 1024, 1<<20 + 1024},
	} {
		r := made(t, 1)
		wake(t, r, 0)
		r.tasks[0].pass = c.pass
		is(t, r.Weight(0, c.weight), api.OK)
		next(t, r, 0)
		pass(t, r, 0, c.want)
	}
}

// P15.2: each has its part: over many turns, as its weight is.
func TestShares(t *testing.T) {
	weights := []float64{1, 2, 4, 0.5, 8, 0.25, 16, 1}
	r := made(t, len(weights))
	for task, w := range weights {
		is(t, r.Weight(task, w), api.OK)
		wake(t, r, task)
	}
	turns := make([]float64, len(weights))
	for range 524 { // 16 times the sum of the weights
		task, _ := r.Next()
		turns[task]++
	}
	for task, w := range weights {
		if turns[task] != 16*w {
			t.Errorf("task %d of weight %v had %v turns", task, w, turns[task])
		}
	}
}

// P15.2: of a nil *Row, whatever the task.
func TestNil(t *testing.T) {
	var r *Row
	for _, task := range numbers() {
		is(t, r.Weight(task, 2), api.ErrNone)
		is(t, r.Wake(task), api.ErrNone)
		is(t, r.Sleep(task), api.ErrNone)
		pass(t, r, task, 0)
	}
	nobody(t, r)
}

// R1: one that New did not make has no task.
func TestZero(t *testing.T) {
	var r Row
	for _, task := range numbers() {
		is(t, r.Weight(task, 2), api.ErrArg)
		is(t, r.Wake(task), api.ErrArg)
		is(t, r.Sleep(task), api.ErrArg)
		pass(t, &r, task, 0)
	}
	nobody(t, &r)
}

// book goes the chapter's words, with nothing of the layers below.
type book struct {
	weight, pass []float64
	awake        []bool
}

func newBook(n int) *book {
	b := &book{weight: make([]float64, n), pass: make([]float64, n), awake: make([]bool, n)}
	for i := range n {
		b.weight[i] = 1
	}
	return b
}

func (b *book) setWeight(task int, w float64) {
	switch {
	case w != w:
		w = 1
	case w < 1.0/1024:
		w = 1.0 / 1024
	case w > 1024:
		w = 1024
	}
	b.weight[task] = w
}

// first is the task whose pass is first, of those that are awake; -1: none is.
func (b *book) first() int {
	first := -1
	for task, up := range b.awake {
		if up && (first < 0 || b.pass[task] < b.pass[first]) {
			first = task
		}
	}
	return first
}

func (b *book) wake(task int) {
	if m := b.first(); !b.awake[task] && m >= 0 {
		b.pass[task] = max(b.pass[m], min(b.pass[task], b.pass[m]+1024))
	}
	b.awake[task] = true
}

func (b *book) next() (int, bool) {
	task := b.first()
	if task < 0 {
		return 0, false
	}
	b.pass[task] += 1 / b.weight[task]
	return task, true
}

func (b *book) up() []int {
	var up []int
	for task, is := range b.awake {
		if is {
			up = append(up, task)
		}
	}
	return up
}

func (b *book) pick(n int) (int, bool) {
	up := b.up()
	if len(up) == 0 {
		return 0, false
	}
	for k := range up {
		if (n-k)%len(up) == 0 {
			return up[k], true
		}
	}
	panic("no place")
}

// same holds what the row tells against the book.
func (b *book) same(t testing.TB, r *Row) {
	t.Helper()
	awake(t, r, b.up()...)
	for task, p := range b.pass {
		pass(t, r, task, p)
	}
	for n := -9; n <= 9; n++ {
		want, there := b.pick(n)
		if got, ok := r.Pick(n); got != want || ok != there {
			t.Fatalf("Pick(%d) = %d, %v, not %d, %v", n, got, ok, want, there)
		}
	}
}

// near holds P15.3's words against what the row tells.
func near(t testing.TB, r *Row) {
	t.Helper()
	up := r.Awake()
	for _, a := range up {
		for _, b := range up {
			if apart := r.Pass(a) - r.Pass(b); !(apart <= 1025) {
				t.Fatalf("the passes of %d and %d, %v and %v, are %v apart", a, b, r.Pass(a), r.Pass(b), apart)
			}
		}
	}
}

// turn is one call, told by two numbers, of the row and of its book.
func turn(t testing.TB, r *Row, b *book, kind, n int) {
	t.Helper()
	task := n % len(b.pass)
	switch kind {
	case 0:
		is(t, r.Wake(task), api.OK)
		b.wake(task)
	case 1:
		is(t, r.Sleep(task), api.OK)
		b.awake[task] = false
	case 2:
		cases := weightCases()
		w := cases[n/len(b.pass)%len(cases)].w
		is(t, r.Weight(task, w), api.OK)
		b.setWeight(task, w)
	default:
		want, there := b.next()
		if got, ok := r.Next(); got != want || ok != there {
			t.Fatalf("Next() = %d, %v, not %d, %v", got, ok, want, there)
		}
	}
}

// P15.1 to P15.3: all short runs of two tasks and of three, one of great weight
// and one of little.
func TestAllRuns(t *testing.T) {
	for tasks, depth := range map[int]int{2: 7, 3: 6} {
		kinds := tasks*2 + 1
		runs := 1
		for range depth {
			runs *= kinds
		}
		for run := range runs {
			r, b := made(t, tasks), newBook(tasks)
			for task, w := range []float64{0.25, none, low}[:tasks] {
				is(t, r.Weight(task, w), api.OK)
				b.setWeight(task, w)
			}
			for rest, i := run, 0; i < depth; rest, i = rest/kinds, i+1 {
				kind := rest % kinds
				turn(t, r, b, []int{0, 1, 3}[kind/tasks], kind)
			}
			b.same(t, r)
			near(t, r)
		}
	}
}

// run goes through calls that bytes tell; if blind, the row is asked at the end
// alone, as asking must change nothing.
func run(t testing.TB, s []byte, blind bool) {
	if len(s) < 1 {
		return
	}
	tasks := 1 + int(s[0])%8
	r, b := made(t, tasks), newBook(tasks)
	for i := 1; i+1 < len(s); i += 2 {
		turn(t, r, b, int(s[i])%12, int(s[i+1]))
		if !blind {
			b.same(t, r)
			near(t, r)
		}
	}
	b.same(t, r)
	near(t, r)
}

// P15.1 to P15.3 over many calls: all answers are those of the book.
func TestRandom(t *testing.T) {
	for seed := range int64(400) {
		s := make([]byte, 1001)
		rand.New(rand.NewSource(seed)).Read(s)
		run(t, s, seed%4 == 0)
	}
}

// P15.3: as far apart as turns and wakings can bring them.
func TestFarthest(t *testing.T) {
	r := made(t, 3)
	is(t, r.Weight(0, low), api.OK)
	wake(t, r, 0, 1)
	next(t, r, 0)
	near(t, r)
	pass(t, r, 0, 1024)
	pass(t, r, 1, 0)
	is(t, r.Sleep(1), api.OK)
	next(t, r, 0, 0, 0) // far ahead, while the others sleep
	near(t, r)
	wake(t, r, 1)
	near(t, r)
	pass(t, r, 1, 4096)
	is(t, r.Sleep(0), api.OK)
	is(t, r.Sleep(1), api.OK)
	wake(t, r, 2) // beside nobody: far behind
	wake(t, r, 0, 1)
	near(t, r)
	pass(t, r, 2, 0)
	pass(t, r, 0, 1024)
	pass(t, r, 1, 1024)
}

// P15.3: up to 2^40 turns: passes are at most 2^50 then, and have two binary
// places left, so that each turn is rounded, by far less than 1.
func TestLateTurns(t *testing.T) {
	cases := weightCases()
	for seed := range int64(200) {
		g := rand.New(rand.NewSource(seed))
		r := made(t, 8)
		start := math.Ldexp(1+g.Float64(), 49-int(seed)%12) - 8192*g.Float64()
		for task := range r.tasks {
			r.tasks[task].pass = start * g.Float64()
		}
		r.tasks[g.Intn(8)].pass = start
		for range 2000 {
			task := g.Intn(8)
			switch g.Intn(8) {
			case 0:
				r.Wake(task)
			case 1:
				r.Sleep(task)
			case 2:
				r.Weight(task, cases[g.Intn(len(cases))].w)
			case 3:
				r.Weight(task, 1.0/1024+g.Float64()/1024)
			default:
				r.Next()
			}
			near(t, r)
		}
	}
}

func FuzzRun(f *testing.F) {
	f.Add([]byte{2, 0, 0, 0, 1, 2, 7, 3, 0, 3, 0, 3, 0})
	f.Add([]byte{7, 0, 3, 2, 19, 5, 0, 5, 0, 1, 3, 0, 4, 0, 3, 5, 0})
	f.Fuzz(func(t *testing.T, s []byte) { run(t, s[:min(len(s), 2000)], len(s)%2 == 0) })
}
