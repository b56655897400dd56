package latch

import (
	"math"
	"math/rand"
	"slices"
	"testing"

	"thimble/api"
)

// numbers are keys and tasks at the ends of their numbers, and near to nought.
func numbers() []int {
	return []int{math.MinInt, math.MinInt + 1, math.MinInt32, -2, -1, 0, 1, 2, math.MaxInt32, math.MaxInt - 1, math.MaxInt}
}

func made(t testing.TB) *Table {
	t.Helper()
	l := New()
	if l == nil {
		t.Fatal("New() is nil")
	}
	return l
}

func ask(t testing.TB, l *Table, task, key int, alone, want bool) {
	t.Helper()
	if got, e := l.Ask(task, key, alone); got != want || e != api.OK {
		t.Fatalf("Ask(%d, %d, %v) = %v, %d, not %v", task, key, alone, got, e, want)
	}
}

func refused(t testing.TB, l *Table, task, key int, want api.Errno) {
	t.Helper()
	for _, alone := range []bool{false, true} {
		if got, e := l.Ask(task, key, alone); got || e != want {
			t.Fatalf("Ask(%d, %d, %v) = %v, %d, not false, %d", task, key, alone, got, e, want)
		}
	}
}

func free(t testing.TB, l *Table, task int, want ...int) {
	t.Helper()
	if got := l.Free(task); !slices.Equal(got, want) {
		t.Fatalf("Free(%d) = %v, not %v", task, got, want)
	}
}

// holds asks twice, as asking changes nothing.
func holds(t testing.TB, l *Table, task, key, want int) {
	t.Helper()
	for range 2 {
		if got := l.Holds(task, key); got != want {
			t.Fatalf("Holds(%d, %d) = %d, not %d", task, key, got, want)
		}
	}
}

func waits(t testing.TB, l *Table, task, want int) {
	t.Helper()
	for range 2 {
		if key, ok := l.Waits(task); key != want || !ok {
			t.Fatalf("Waits(%d) = %d, %v, not %d, true", task, key, ok, want)
		}
	}
}

func noWait(t testing.TB, l *Table, task int) {
	t.Helper()
	for range 2 {
		if key, ok := l.Waits(task); key != 0 || ok {
			t.Fatalf("Waits(%d) = %d, %v, not 0, false", task, key, ok)
		}
	}
}

// empty holds that nothing of what was is kept.
func empty(t testing.TB, l *Table) {
	t.Helper()
	if len(l.latches) != 0 || len(l.held) != 0 || len(l.waits) != 0 {
		t.Fatalf("%d latches, %d tasks that have some, %d that wait", len(l.latches), len(l.held), len(l.waits))
	}
}

// The chapter's examples.
func TestExamples(t *testing.T) {
	l := made(t)
	ask(t, l, 1, 7, false, true)
	ask(t, l, 2, 7, true, false)
	ask(t, l, 3, 7, false, false)
	free(t, l, 1, 2)
	free(t, l, 2, 3)
	free(t, l, 3)
	empty(t, l)
}

// P14.1: at first nobody has, or waits for, anything.
func TestNew(t *testing.T) {
	l := made(t)
	for _, task := range numbers() {
		for _, key := range numbers() {
			holds(t, l, task, key, 0)
		}
		noWait(t, l, task)
		free(t, l, task)
	}
	empty(t, l)
}

// P14.1: who may have a latch beside whom.
func TestAsk(t *testing.T) {
	for _, c := range []struct{ first, second, want bool }{
		{false, false, true},
		{false, true, false},
		{true, false, false},
		{true, true, false},
	} {
		l := made(t)
		ask(t, l, 1, 7, c.first, true)
		ask(t, l, 2, 7, c.second, c.want)
		holds(t, l, 1, 7, how(c.first))
		noWait(t, l, 1)
		if c.want {
			holds(t, l, 2, 7, how(c.second))
			noWait(t, l, 2)
			free(t, l, 1)
		} else {
			holds(t, l, 2, 7, 0)
			waits(t, l, 2, 7)
			free(t, l, 1, 2)
		}
		holds(t, l, 1, 7, 0)
		holds(t, l, 2, 7, how(c.second))
		noWait(t, l, 2)
	}
}

func how(alone bool) int {
	if alone {
		return 2
	}
	return 1
}

// P14.1: a request that isn't the first of its queue isn't granted, even if all
// who have the latch would share it.
func TestAskBehindOthers(t *testing.T) {
	l := made(t)
	ask(t, l, 1, 7, false, true)
	ask(t, l, 2, 7, false, true)
	ask(t, l, 3, 7, true, false)
	ask(t, l, 4, 7, false, false)
	ask(t, l, 5, 7, false, false)
	for task, want := range []int{1: 1, 2: 1, 3: 0, 4: 0, 5: 0} {
		holds(t, l, task, 7, want)
	}
	waits(t, l, 5, 7)
	free(t, l, 1)
	free(t, l, 2, 3)
	free(t, l, 3, 4, 5)
}

// P14.1: of ErrBusy: the task has this latch, shared or alone, whichever way it
// asks; it stays as it has it.
func TestAskTwice(t *testing.T) {
	for _, alone := range []bool{false, true} {
		l := made(t)
		ask(t, l, 1, 7, alone, true)
		refused(t, l, 1, 7, api.ErrBusy)
		holds(t, l, 1, 7, how(alone))
		noWait(t, l, 1)
		ask(t, l, 2, 7, true, false)
		refused(t, l, 1, 7, api.ErrBusy)
		ask(t, l, 1, 8, true, true) // another one it may have
		free(t, l, 1, 2)            // and one Free is enough
		free(t, l, 2)
		empty(t, l)
	}
}

// P14.1: of ErrBusy: the task waits, whatever it asks for: the same key, one
// that is free, one that it has; it keeps its place, and what it has.
func TestAskWhileWaiting(t *testing.T) {
	l := made(t)
	ask(t, l, 1, 7, true, true)
	ask(t, l, 2, 5, false, true)
	ask(t, l, 2, 7, false, false)
	ask(t, l, 3, 7, true, false)
	for _, key := range append(numbers(), 5, 7) {
		refused(t, l, 2, key, api.ErrBusy)
	}
	waits(t, l, 2, 7)
	holds(t, l, 2, 5, 1)
	holds(t, l, 2, 0, 0)
	free(t, l, 1, 2)
	ask(t, l, 2, 0, true, true) // it waits no longer
	free(t, l, 2, 3)
	free(t, l, 3)
	empty(t, l)
}

// P14.1: one that was refused, or freed, may ask anew; it is the last one then.
func TestAskAnew(t *testing.T) {
	l := made(t)
	ask(t, l, 1, 7, true, true)
	ask(t, l, 2, 7, true, false)
	ask(t, l, 3, 7, true, false)
	free(t, l, 2)
	noWait(t, l, 2)
	ask(t, l, 2, 7, false, false)
	free(t, l, 1, 3)
	ask(t, l, 1, 7, false, false)
	free(t, l, 3, 1, 2)
	free(t, l, 1)
	ask(t, l, 1, 7, false, true)
	holds(t, l, 1, 7, 1)
}

// P14.1: a task may have many latches, each in its own way.
func TestManyKeys(t *testing.T) {
	l := made(t)
	for i, key := range numbers() {
		ask(t, l, 1, key, i%2 == 0, true)
	}
	for i, key := range numbers() {
		holds(t, l, 1, key, how(i%2 == 0))
		holds(t, l, 2, key, 0)
		refused(t, l, 1, key, api.ErrBusy)
	}
	ask(t, l, 2, math.MinInt+1, false, true) // that one is shared
	free(t, l, 1)
	for _, key := range numbers() {
		holds(t, l, 1, key, 0)
	}
	holds(t, l, 2, math.MinInt+1, 1)
}

// P14.1: tasks and keys of all numbers are apart, a task from a key too; key 0
// is one like others, for which a task may wait.
func TestNumbersApart(t *testing.T) {
	for _, key := range numbers() {
		for _, task := range numbers() {
			l := made(t)
			ask(t, l, task, key, true, true)
			for _, other := range numbers() {
				holds(t, l, task, other, btoi(other == key)*2)
				holds(t, l, other, key, btoi(other == task)*2)
				if other != task {
					ask(t, l, other, key, false, false)
					waits(t, l, other, key)
				}
				noWait(t, l, task)
			}
			want := slices.DeleteFunc(numbers(), func(n int) bool { return n == task })
			free(t, l, task, want...)
		}
	}
}

func btoi(b bool) int {
	if b {
		return 1
	}
	return 0
}

// P14.2: its request is gone: from the front, the middle and the end of a queue;
// the others keep their order.
func TestFreeOfOneThatWaits(t *testing.T) {
	for gone := 2; gone <= 5; gone++ {
		l := made(t)
		ask(t, l, 1, 7, true, true)
		var order []int
		for task := 2; task <= 5; task++ {
			ask(t, l, task, 7, true, false)
			if task != gone {
				order = append(order, task)
			}
		}
		free(t, l, gone)
		noWait(t, l, gone)
		holds(t, l, 1, 7, 2)
		last := 1
		for _, task := range order {
			waits(t, l, task, 7)
			free(t, l, last, task)
			last = task
		}
		free(t, l, last)
		empty(t, l)
	}
}

// P14.2: who waits alone at the front keeps those behind it waiting; if it goes
// they are granted, up to the next that may not be.
func TestFreeOfTheFront(t *testing.T) {
	l := made(t)
	ask(t, l, 9, 7, false, true)
	ask(t, l, 8, 7, true, false)
	ask(t, l, 6, 7, false, false)
	ask(t, l, 4, 7, false, false)
	ask(t, l, 5, 7, true, false)
	ask(t, l, 3, 7, false, false)
	free(t, l, 8, 4, 6)
	holds(t, l, 9, 7, 1)
	holds(t, l, 4, 7, 1)
	holds(t, l, 6, 7, 1)
	waits(t, l, 5, 7)
	waits(t, l, 3, 7)
	free(t, l, 3)
	free(t, l, 5)
	for _, task := range []int{9, 6, 4} {
		free(t, l, task)
	}
	empty(t, l)
}

// P14.2: a latch that is shared is free for one alone only when the last one
// lets go.
func TestFreeOfOneThatShares(t *testing.T) {
	l := made(t)
	for task := range 5 {
		ask(t, l, task, 7, false, true)
	}
	ask(t, l, 5, 7, true, false)
	for _, task := range []int{3, 0, 4, 1} {
		free(t, l, task)
		free(t, l, task) // it has nothing any more
		waits(t, l, 5, 7)
	}
	free(t, l, 2, 5)
	holds(t, l, 5, 7, 2)
}

// P14.2: of all that it has, of all keys, the first ones are granted; the tasks
// are told rising, whatever their order in the queues.
func TestFreeOfMany(t *testing.T) {
	l := made(t)
	for _, key := range numbers() {
		ask(t, l, 100, key, true, true)
	}
	tasks := []int{5, -5, math.MaxInt, math.MinInt, 0, 11, -1, 7, 6, 3, 2}
	for i, key := range numbers() {
		ask(t, l, tasks[i], key, i%2 == 0, false)
		ask(t, l, 200+i, key, i%3 == 0, false)
	}
	// Of numbers()' places those are shared by both that are odd and no multiple
	// of 3: 1, 5 and 7.
	want := append(slices.Clone(tasks), 201, 205, 207)
	slices.Sort(want)
	free(t, l, 100, want...)
	for i, key := range numbers() {
		holds(t, l, 100, key, 0)
		holds(t, l, tasks[i], key, how(i%2 == 0))
		if i == 1 || i == 5 || i == 7 {
			holds(t, l, 200+i, key, 1)
		} else {
			waits(t, l, 200+i, key)
		}
	}
}

// P14.2: what it has and its request go together.
func TestFreeOfBoth(t *testing.T) {
	l := made(t)
	ask(t, l, 1, 7, false, true)
	ask(t, l, 2, 8, true, true)
	ask(t, l, 2, 7, true, false) // it has 8, and waits for 7,
	ask(t, l, 4, 7, false, false)
	ask(t, l, 3, 8, false, false)
	free(t, l, 2, 3, 4) // so that one is granted behind each
	holds(t, l, 4, 7, 1)
	holds(t, l, 3, 8, 1)
	noWait(t, l, 2)
	holds(t, l, 2, 8, 0)
	holds(t, l, 2, 7, 0)
	for task := range 5 {
		free(t, l, task)
	}
	empty(t, l)
}

// P14.2: who is granted what it waited for keeps what it had.
func TestGrantedKeeps(t *testing.T) {
	l := made(t)
	ask(t, l, 1, 7, true, true)
	ask(t, l, 2, 8, true, true)
	ask(t, l, 2, 9, false, true)
	ask(t, l, 2, 7, true, false)
	ask(t, l, 3, 8, false, false)
	free(t, l, 1, 2)
	for key, want := range []int{7: 2, 8: 2, 9: 1} {
		holds(t, l, 2, key, want)
	}
	waits(t, l, 3, 8)
	free(t, l, 2, 3)
}

// P14.2: two that wait for each other wait on, till one of them is freed.
func TestCircle(t *testing.T) {
	l := made(t)
	ask(t, l, 1, 7, true, true)
	ask(t, l, 2, 8, true, true)
	ask(t, l, 1, 8, false, false)
	ask(t, l, 2, 7, false, false)
	free(t, l, 3)
	refused(t, l, 1, 9, api.ErrBusy)
	refused(t, l, 2, 9, api.ErrBusy)
	free(t, l, 1, 2)
	holds(t, l, 2, 7, 1)
	holds(t, l, 2, 8, 2)
	free(t, l, 2)
	empty(t, l)
}

// P14.2: Free of a task leaves the keys and the tasks alone that have its number
// otherwise.
func TestFreeIsOfTasks(t *testing.T) {
	l := made(t)
	ask(t, l, 1, 2, true, true)
	ask(t, l, 2, 1, true, true)
	ask(t, l, 3, 2, true, false)
	ask(t, l, 4, 1, true, false)
	free(t, l, 0)
	free(t, l, -1)
	free(t, l, 2, 4)
	holds(t, l, 1, 2, 2)
	waits(t, l, 3, 2)
}

// P14.2, R1: each call of a nil table.
func TestNil(t *testing.T) {
	var l *Table
	for _, task := range numbers() {
		for _, key := range numbers() {
			refused(t, l, task, key, api.ErrNone)
			holds(t, l, task, key, 0)
		}
		free(t, l, task)
		noWait(t, l, task)
	}
}

// Beyond the promises: a table that New did not make is like one that it made.
func TestZero(t *testing.T) {
	l := &Table{}
	holds(t, l, 1, 7, 0)
	noWait(t, l, 1)
	free(t, l, 1)
	ask(t, l, 1, 7, true, true)
	ask(t, l, 2, 7, false, false)
	free(t, l, 1, 2)
	holds(t, l, 2, 7, 1)
}

// R4: what Free tells is new memory.
func TestToldIsNew(t *testing.T) {
	l := made(t)
	ask(t, l, 1, 7, true, true)
	for task := 2; task <= 5; task++ {
		ask(t, l, task, 7, task == 5, false)
	}
	got := l.Free(1)
	if !slices.Equal(got, []int{2, 3, 4}) {
		t.Fatal(got)
	}
	for i := range got {
		got[i] = 99
	}
	_ = append(got[:0], 98, 98, 98, 98)
	ask(t, l, 1, 7, false, false)
	for task := 2; task <= 4; task++ {
		holds(t, l, task, 7, 1)
	}
	waits(t, l, 5, 7)
	free(t, l, 2)
	free(t, l, 3)
	free(t, l, 4, 5)
	free(t, l, 5, 1)
}

// R6: two tables share nothing.
func TestApart(t *testing.T) {
	a, b := made(t), made(t)
	ask(t, a, 1, 7, true, true)
	ask(t, a, 2, 7, true, false)
	holds(t, b, 1, 7, 0)
	noWait(t, b, 2)
	ask(t, b, 2, 7, true, true)
	free(t, b, 1)
	free(t, b, 2)
	holds(t, a, 1, 7, 2)
	waits(t, a, 2, 7)
}

// Many tasks that have latches of their own keep nobody up, and of a latch that
// came and went nothing is kept.
func TestMany(t *testing.T) {
	const n = 50000
	l := made(t)
	for task := range n {
		ask(t, l, task, task, true, true)
	}
	for task := range n {
		ask(t, l, task, -1, task%2 == 0, task == 0)
	}
	for task := range n - 1 {
		free(t, l, task, task+1)
	}
	free(t, l, n-1)
	empty(t, l)
}

// have is a latch as a task has it, or a request for it.
type have struct {
	task, key int
	alone     bool
}

// book goes the chapter's words, over lists: who has what, and all requests in
// the order in which they came.
type book struct {
	has, asked []have
}

func (b *book) may(r have) bool {
	for _, other := range b.asked {
		if other.key == r.key {
			if other.task != r.task {
				return false
			}
			break
		}
	}
	for _, h := range b.has {
		if h.key == r.key && (h.alone || r.alone) {
			return false
		}
	}
	return true
}

// grant grants one request, if there is one that may be granted.
func (b *book) grant() (int, bool) {
	for i, r := range b.asked {
		if b.may(r) {
			b.asked = slices.Delete(slices.Clone(b.asked), i, i+1)
			b.has = append(b.has, r)
			return r.task, true
		}
	}
	return 0, false
}

func (b *book) ask(task, key int, alone bool) (bool, api.Errno) {
	_, waits := b.waits(task)
	if waits || b.holds(task, key) != 0 {
		return false, api.ErrBusy
	}
	b.asked = append(b.asked, have{task, key, alone})
	_, ok := b.grant()
	return ok, api.OK
}

func (b *book) free(task int) []int {
	of := func(h have) bool { return h.task == task }
	b.asked, b.has = slices.DeleteFunc(b.asked, of), slices.DeleteFunc(b.has, of)
	var l []int
	for {
		who, ok := b.grant()
		if !ok {
			slices.Sort(l)
			return l
		}
		l = append(l, who)
	}
}

func (b *book) holds(task, key int) int {
	for _, h := range b.has {
		if h.task == task && h.key == key {
			return how(h.alone)
		}
	}
	return 0
}

func (b *book) waits(task int) (int, bool) {
	for _, r := range b.asked {
		if r.task == task {
			return r.key, true
		}
	}
	return 0, false
}

// same holds all that may be asked against the book.
func (b *book) same(t testing.TB, l *Table, tasks, keys int) {
	t.Helper()
	for task := range tasks {
		for key := range keys {
			if got, want := l.Holds(task, key), b.holds(task, key); got != want {
				t.Fatalf("Holds(%d, %d) = %d, not %d", task, key, got, want)
			}
		}
		key, ok := l.Waits(task)
		if wantKey, want := b.waits(task); key != wantKey || ok != want {
			t.Fatalf("Waits(%d) = %d, %v, not %d, %v", task, key, ok, wantKey, want)
		}
	}
}

// sound holds P14.3's words against what the table tells.
func sound(t testing.TB, l *Table, tasks, keys int) {
	t.Helper()
	for key := range keys {
		shared, alone, waiting := 0, 0, 0
		for task := range tasks {
			switch l.Holds(task, key) {
			case 1:
				shared++
			case 2:
				alone++
			}
			if k, ok := l.Waits(task); ok && k == key {
				waiting++
			}
		}
		if alone > 1 || alone == 1 && shared > 0 {
			t.Fatalf("of key %d: %d have it alone, %d share it", key, alone, shared)
		}
		if waiting > 0 && alone+shared == 0 {
			t.Fatalf("of key %d: %d wait, and nobody has it", key, waiting)
		}
	}
}

// turn is one call, told by a number, of the table and of its book.
func turn(t testing.TB, l *Table, b *book, n, tasks, keys int) {
	t.Helper()
	asks := tasks * keys * 2
	if n >= asks {
		task := n - asks
		want := b.free(task)
		free(t, l, task, want...)
		return
	}
	task, key, alone := n%tasks, n/tasks%keys, n/tasks/keys == 1
	want, code := b.ask(task, key, alone)
	if got, e := l.Ask(task, key, alone); got != want || e != code {
		t.Fatalf("Ask(%d, %d, %v) = %v, %d, not %v, %d", task, key, alone, got, e, want, code)
	}
}

// walk goes through all runs of so many calls, each on a new table.
func walk(t *testing.T, tasks, keys, depth int) {
	kinds := tasks*keys*2 + tasks
	runs := 1
	for range depth {
		runs *= kinds
	}
	for run := range runs {
		l, b := New(), &book{}
		for rest, i := run, 0; i < depth; rest, i = rest/kinds, i+1 {
			turn(t, l, b, rest%kinds, tasks, keys)
		}
		b.same(t, l, tasks, keys)
		sound(t, l, tasks, keys)
	}
}

// P14.1 to P14.3: all short runs.
func TestAllRuns(t *testing.T) {
	walk(t, 2, 1, 6)
	walk(t, 3, 1, 5)
	walk(t, 4, 1, 5)
	walk(t, 3, 2, 4)
}

// P14.3: requests for a key are granted in the order in which they came: each
// one that is granted was asked for ahead of all that wait for its key still.
func TestOrder(t *testing.T) {
	const tasks, keys = 8, 3
	for seed := range int64(200) {
		r := rand.New(rand.NewSource(seed))
		l, came, last := made(t), map[int]int{}, map[int]int{}
		granted := func(task, key int) {
			t.Helper()
			if came[task] <= last[key] {
				t.Fatalf("seed %d: task %d is granted %d behind one that came later", seed, task, key)
			}
			last[key] = came[task]
		}
		for time := 1; time <= 2000; time++ {
			task, key := r.Intn(tasks), r.Intn(keys)
			if r.Intn(3) > 0 {
				ok, e := l.Ask(task, key, r.Intn(2) == 0)
				if e == api.OK {
					came[task] = time
				}
				if ok {
					granted(task, key)
				}
				continue
			}
			before := map[int]int{}
			for other := range tasks {
				if k, ok := l.Waits(other); ok {
					before[other] = k
				}
			}
			told := l.Free(task)
			slices.SortFunc(told, func(a, b int) int { return came[a] - came[b] })
			for _, other := range told {
				granted(other, before[other])
			}
			for other, k := range before {
				if key, ok := l.Waits(other); ok && (key != k || came[other] < last[k]) {
					t.Fatalf("seed %d: task %d waits on behind one that came later", seed, other)
				}
			}
			sound(t, l, tasks, keys)
		}
	}
}

// run goes through calls that bytes tell; if blind, the table is asked at the
// end alone, as asking must change nothing.
func run(t testing.TB, s []byte, blind bool) {
	if len(s) < 2 {
		return
	}
	tasks, keys := 1+int(s[0])%8, 1+int(s[1])%5
	l, b := made(t), &book{}
	for _, x := range s[2:] {
		turn(t, l, b, int(x)%(tasks*keys*2+tasks), tasks, keys)
		if !blind {
			b.same(t, l, tasks, keys)
			sound(t, l, tasks, keys)
		}
	}
	b.same(t, l, tasks, keys)
	for task := range tasks {
		free(t, l, task, b.free(task)...)
	}
	empty(t, l)
}

// P14.1 to P14.3 over many calls: all answers are those of the book.
func TestRandom(t *testing.T) {
	for seed := range int64(600) {
		s := make([]byte, 1000)
		rand.New(rand.NewSource(seed)).Read(s)
		run(t, s, seed%4 == 0)
	}
}

func FuzzRun(f *testing.F) {
	f.Add([]byte{3, 1, 0, 5, 2, 16, 17, 18})
	f.Add([]byte{7, 4, 80, 81, 82, 83, 0, 1, 2, 3, 84, 85, 86})
	f.Fuzz(func(t *testing.T, s []byte) { run(t, s[:min(len(s), 2000)], len(s)%2 == 0) })
}
