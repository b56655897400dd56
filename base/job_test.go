package base

import (
	"bytes"
	"math"
	"math/rand"
	"slices"
	"testing"

	"thimble/api"
	"thimble/dev"
	"thimble/ghost"
	"thimble/reg"
)

// wrongBlocks are numbers that no block has whose home an image goes, whatever the plan.
var wrongBlocks = []int{math.MinInt, math.MinInt + 1, math.MinInt32, -4096, -2, -1, 65535, 65536, math.MaxInt32, math.MaxUint32, 1 << 32, math.MaxInt}

// wrongLengths are lengths that no image has.
var wrongLengths = []int{0, 1, 16, 240, 254, 255, 257, 258, 512, 1 << 16}

func job(t testing.TB, d *dev.Device, r *reg.Register, l *ghost.Log) *Job {
	t.Helper()
	j, e := NewJob(d, r, l)
	if e != api.OK || j == nil {
		t.Fatalf("NewJob = %v, %d", j, e)
	}
	return j
}

func puts(t testing.TB, j *Job, block int, b []byte, want api.Errno) {
	t.Helper()
	if e := j.Put(block, b); e != want {
		t.Fatalf("Put(%d, %d bytes) = %d, not %d", block, len(b), e, want)
	}
}

func goes(t testing.TB, j *Job, next api.State, done bool, want api.Errno) {
	t.Helper()
	if ok, e := j.Go(next); ok != done || e != want {
		t.Fatalf("Go = %v, %d, not %v, %d", ok, e, done, want)
	}
}

// commit is a job that makes new of old, all of whose images are put.
type commit struct {
	d        *dev.Device
	r        *reg.Register
	l        *ghost.Log
	old, new *world
	blocks   []int
	next     api.State
	j        *Job
}

// commits makes a world, the register of which holds it, and the job that makes
// another one of it.
func commits(t testing.TB, s shape, texts map[int][]byte) *commit {
	t.Helper()
	c := &commit{}
	c.d, c.r, c.l = made(t, s)
	c.old = newWorld(planned(t, s), []byte("master"), false)
	c.new = c.old.with(0, 1, 10, texts)
	c.blocks = c.old.parts(c.new)
	c.next = c.new.state(0, 1)
	c.j = job(t, c.d, c.r, c.l)
	for _, block := range c.blocks {
		puts(t, c.j, block, c.new.blocks[block], api.OK)
	}
	return c
}

// busy is what the register holds while the images go home.
func (c *commit) busy() api.State {
	s := c.next
	s.Busy = true
	s.Mark = markOf(headOf(c.old.plan, s.Version, c.blocks), c.new.images(c.blocks))
	return s
}

// steps is how many calls of Go a commit takes.
func (c *commit) steps() int { return c.old.plan.Heads + len(c.blocks) + 4 }

// The chapter's second example.
func TestExampleJob(t *testing.T) {
	d, r, l := made(t, shape{1, 4})
	n, w := d.Count(), len(d.Written())
	j := job(t, d, r, l)
	b := bytes.Repeat([]byte{7}, 256)
	puts(t, j, 0, b, api.OK)
	next := r.Read()
	next.Version = 1
	for range 5 {
		goes(t, j, next, false, api.OK)
	}
	goes(t, j, next, true, api.OK)
	p := planned(t, shape{1, 4})
	wrote(t, d, w, []int{p.Journal, p.Head, 0}, [][]byte{b, headOf(p, 1, []int{0}), b})
	if d.Count() != n+7 || d.Waits() != 0 {
		t.Fatalf("%d accesses", d.Count()-n)
	}
}

// P22.5: no device, no register; a blank register; no plan or no room. It needs no
// power and no log, is no access, and tells nothing.
func TestNewJob(t *testing.T) {
	for _, up := range []bool{true, false} {
		d, r, l := made(t, shape{17, 5})
		none, blankOne, _ := blank(t, 12)
		if !up {
			d.Crash()
			none.Crash()
		}
		before := look(d, r, l)
		job(t, d, r, l)
		job(t, d, r, nil)
		if look(d, r, l) != before {
			t.Fatal("NewJob does something")
		}
		for _, c := range []struct {
			d    *dev.Device
			r    *reg.Register
			want api.Errno
		}{{nil, r, api.ErrNone}, {d, nil, api.ErrNone}, {nil, nil, api.ErrNone}, {nil, blankOne, api.ErrNone}, {d, blankOne, api.ErrBlank}, {none, r, api.ErrArg}} {
			if j, e := NewJob(c.d, c.r, l); j != nil || e != c.want {
				t.Fatalf("NewJob = %v, %d, not %d", j, e, c.want)
			}
		}
	}
	for _, s := range append(narrow, shape{129, 60}, shape{1, 5}) {
		d, r, l := blank(t, 12)
		holds(t, r, stateOf(s))
		if j, e := NewJob(d, r, l); j != nil || e != api.ErrArg {
			t.Fatalf("NewJob of %v: %d", s, e)
		}
	}
	for _, s := range shapes {
		total := planned(t, s).Total
		d, r, l := blank(t, total-1)
		holds(t, r, stateOf(s))
		if j, e := NewJob(d, r, l); j != nil || e != api.ErrArg {
			t.Fatalf("NewJob of %v: %d", s, e)
		}
		d, r, l = blank(t, total)
		holds(t, r, stateOf(s))
		job(t, d, r, l)
	}
}

// P22.5: each image waits in its block of the journal, up to the budget; blocks at
// the ends, and one several times. The digest of what was put is noted.
func TestPut(t *testing.T) {
	for i, s := range shapes {
		p := planned(t, s)
		d, r, l := made(t, s)
		j := job(t, d, r, l)
		g := rand.New(rand.NewSource(int64(i)))
		n, w := d.Count(), len(d.Written())
		var images [][]byte
		var blocks []int
		for many := range s.budget {
			blocks = append(blocks, []int{0, p.Head - 1, p.Head - 1, g.Intn(p.Head)}[min(many, 3)])
			images = append(images, noise(g, 256))
			puts(t, j, blocks[many], images[many], api.OK)
			if d.Waits() != many+1 || d.Count() != n+many+1 {
				t.Fatalf("%d writes wait behind %d accesses", d.Waits(), d.Count()-n)
			}
		}
		wrote(t, d, w, rising(p.Journal, s.budget), images)
		before := look(d, r, l)
		puts(t, j, 0, images[0], api.ErrFull)
		puts(t, j, p.Head-1, images[0], api.ErrFull)
		puts(t, j, p.Head, images[0], api.ErrArg)
		puts(t, j, 0, images[0][1:], api.ErrArg)
		if look(d, r, l) != before {
			t.Fatal("a Put that is refused does something")
		}
		if at := g.Intn(s.budget); !known(l, input(blocks[at], images[at])) {
			t.Fatal("the digest of an image wasn't noted")
		}
	}
}

// P22.5: wrong blocks, and images of other lengths.
func TestPutWrong(t *testing.T) {
	d, r, l := made(t, shape{17, 5})
	p := planned(t, shape{17, 5})
	j := job(t, d, r, l)
	good := make([]byte, 256)
	before := look(d, r, l)
	for _, block := range append(wrongBlocks, p.Head, p.Head+1, p.Journal, p.Spill, p.Total-1, p.Total) {
		puts(t, j, block, good, api.ErrArg)
		puts(t, j, block, nil, api.ErrArg)
	}
	for _, n := range wrongLengths {
		puts(t, j, 0, make([]byte, n), api.ErrArg)
	}
	puts(t, j, 0, nil, api.ErrArg)
	if look(d, r, l) != before {
		t.Fatal("a Put that is refused does something")
	}
	puts(t, j, 0, good, api.OK)
	d.Crash()
	puts(t, j, p.Head, good, api.ErrArg)
	puts(t, j, 0, good, api.ErrDown)
	goes(t, j, r.Read(), false, api.ErrDown)
	puts(t, j, p.Head, good, api.ErrBusy)
	puts(t, j, 0, nil, api.ErrBusy)
	puts(t, j, 0, good, api.ErrBusy)
}

// P22.5, R2: behind the first Go there is no Put, whatever it is handed, also when
// the job is full, and when it is done.
func TestPutBusy(t *testing.T) {
	c := commits(t, shape{1, 3}, map[int][]byte{0: []byte("a")})
	puts(t, c.j, 0, c.new.blocks[0], api.ErrFull)
	for i := range c.steps() {
		goes(t, c.j, c.next, i == c.steps()-1, api.OK)
		before := look(c.d, c.r, c.l)
		puts(t, c.j, 0, c.new.blocks[0], api.ErrBusy)
		puts(t, c.j, -1, nil, api.ErrBusy)
		if look(c.d, c.r, c.l) != before {
			t.Fatal("a Put that is refused does something")
		}
	}
}

// P22.5: a Put in which the power goes is no image, though its write waits; the
// next one takes its block of the journal.
func TestPutPower(t *testing.T) {
	c := commits(t, shape{17, 5}, nil)
	p := c.old.plan
	a, b := bytes.Repeat([]byte{1}, 256), bytes.Repeat([]byte{2}, 256)
	puts(t, c.j, 0, a, api.OK)
	flush(t, c.d)
	c.d.Arm(1)
	h, _, _ := c.l.Count()
	puts(t, c.j, 1, b, api.ErrDown)
	puts(t, c.j, 1, b, api.ErrDown)
	if n, _, _ := c.l.Count(); n != h || c.d.Waits() != 1 {
		t.Fatalf("%d writes wait, %d were noted", c.d.Waits(), n-h)
	}
	c.d.On([]int{256})
	reads(t, c.d, p.Journal+1, b)
	puts(t, c.j, 2, a, api.OK)
	reads(t, c.d, p.Journal+1, a)
	w := len(c.d.Written())
	goes(t, c.j, c.next, false, api.OK)
	wrote(t, c.d, w, []int{p.Head}, cut(headOf(p, 1, []int{0, 2})))
}

// P22.6: each call, one thing each: what was written, what waits, and what the
// register holds behind it. The last one is true, and those behind it do nothing.
func TestGo(t *testing.T) {
	for i, s := range shapes {
		c := commits(t, s, someTexts(s.pages, 1+i%2*(s.budget/60)))
		p := c.old.plan
		head := headOf(p, 1, c.blocks)
		n, w, waits := c.d.Count(), len(c.d.Written()), c.d.Waits()
		step := func(waits int, held api.State, done bool) {
			t.Helper()
			n++
			goes(t, c.j, c.next, done, api.OK)
			isHeld(t, c.r, held)
			if c.d.Count() != n || c.d.Waits() != waits {
				t.Fatalf("%v: %d accesses too many, %d writes wait, not %d", s, c.d.Count()-n, c.d.Waits(), waits)
			}
		}
		before := c.r.Read()
		for k := range p.Heads {
			step(waits+k+1, before, false)
		}
		wrote(t, c.d, w, rising(p.Head, p.Heads), cut(head))
		w += p.Heads
		step(0, before, false)
		step(0, c.busy(), false)
		for k := range c.blocks {
			step(k+1, c.busy(), false)
		}
		step(0, c.busy(), false)
		step(0, c.next, true)
		wrote(t, c.d, w, c.blocks, c.new.images(c.blocks))
		c.new.stand(t, c.d)
		end := look(c.d, c.r, c.l)
		for range 3 {
			goes(t, c.j, c.next, true, api.OK)
			goes(t, c.j, api.State{}, true, api.OK)
		}
		c.d.Crash()
		goes(t, c.j, c.next, true, api.OK)
		c.d.On(nil)
		if look(c.d, c.r, c.l) != end {
			t.Fatal("a Go behind the last one does something")
		}
		if !known(c.l, slices.Concat([]byte{2}, head, bytes.Join(c.new.images(c.blocks), nil))) {
			t.Fatal("the mark wasn't noted")
		}
	}
}

// P22.6: of next the first call's counts, and of that neither Busy nor Mark.
func TestGoNext(t *testing.T) {
	c := commits(t, shape{17, 5}, map[int][]byte{3: []byte("a")})
	first := c.next
	first.Busy, first.Mark = true, [32]byte{7}
	goes(t, c.j, first, false, api.OK)
	for i := 1; i < c.steps(); i++ {
		other := c.next
		other.Version, other.Root, other.Pages, other.Boot = 99, [32]byte{byte(i)}, -i, 77
		goes(t, c.j, other, i == c.steps()-1, api.OK)
		if i == 2 {
			isHeld(t, c.r, c.busy())
		}
	}
	isHeld(t, c.r, c.next)
}

// P22.6: a job without images, and one full of them.
func TestGoCounts(t *testing.T) {
	for many := 0; many <= 61; many++ {
		s := shape{20, 61}
		p := planned(t, s)
		d, r, l := made(t, s)
		j := job(t, d, r, l)
		g := rand.New(rand.NewSource(int64(many)))
		var blocks []int
		var images [][]byte
		for i := range many {
			blocks = append(blocks, g.Intn(p.Head))
			images = append(images, noise(g, 256))
			puts(t, j, blocks[i], images[i], api.OK)
		}
		w := len(d.Written())
		next := r.Read()
		next.Version = math.MaxUint64
		for range many + p.Heads + 3 {
			goes(t, j, next, false, api.OK)
		}
		goes(t, j, next, true, api.OK)
		isHeld(t, r, next)
		head := headOf(p, next.Version, blocks)
		wrote(t, d, w, append(rising(p.Head, p.Heads), blocks...), append(cut(head), images...))
	}
}

// sticks holds that the job answers this error alone from now on, and does nothing,
// with the power on or off.
func sticks(t *testing.T, c *commit, want api.Errno) {
	t.Helper()
	for range 2 {
		before := look(c.d, c.r, c.l)
		for _, next := range []api.State{c.next, {}} {
			goes(t, c.j, next, false, want)
		}
		puts(t, c.j, 0, c.new.blocks[0], api.ErrBusy)
		if look(c.d, c.r, c.l) != before {
			t.Fatal("a Go behind an error does something")
		}
		c.d.Crash()
		goes(t, c.j, c.next, false, want)
		c.d.On([]int{256})
	}
}

// P22.6: the power goes in each of the calls, or between two of them.
func TestGoPower(t *testing.T) {
	for at := 0; ; at++ {
		for _, arm := range []int{0, 1} {
			c := commits(t, shape{17, 5}, map[int][]byte{3: []byte("a")})
			if at == c.steps() {
				return
			}
			for range at {
				goes(t, c.j, c.next, false, api.OK)
			}
			if c.d.Arm(arm); arm == 0 {
				c.d.Crash()
			}
			held := c.r.Read()
			goes(t, c.j, c.next, false, api.ErrDown)
			isHeld(t, c.r, held)
			sticks(t, c, api.ErrDown)
		}
	}
}

// P22.6: a next that may not follow is refused by the register, at its Write, and
// the journal isn't closed: the next Boot finds what was held.
func TestGoForm(t *testing.T) {
	for _, turn := range []func(*api.State){
		func(s *api.State) { s.Pages++ },
		func(s *api.State) { s.Pages = -1 },
		func(s *api.State) { s.Budget = math.MaxInt },
		func(s *api.State) { s.Wide = true },
		func(s *api.State) { s.Epoch = 0 },
		func(s *api.State) { s.Cursor = s.Pages + 1 },
		func(s *api.State) { s.Cursor = math.MinInt },
		func(s *api.State) { *s = api.State{} },
	} {
		c := commits(t, shape{17, 5}, map[int][]byte{3: []byte("a")})
		turn(&c.next)
		held := c.r.Read()
		goes(t, c.j, c.next, false, api.OK)
		goes(t, c.j, c.next, false, api.OK)
		before := look(c.d, c.r, c.l)
		goes(t, c.j, c.next, false, api.ErrForm)
		if look(c.d, c.r, c.l) != before {
			t.Fatal("a Write that is refused leaves a trace")
		}
		sticks(t, c, api.ErrForm)
		held.Boot++
		if s, e := Boot(c.d, c.r, c.l); e != api.OK || s != held {
			t.Fatalf("Boot = %v, %d", s, e)
		}
		c.old.stand(t, c.d)
	}
}

// P22.6: a next that might be held when the images were put, and no more at the end.
func TestGoRisen(t *testing.T) {
	c := commits(t, shape{17, 5}, map[int][]byte{3: []byte("a")})
	for range c.steps() - 1 {
		goes(t, c.j, c.next, false, api.OK)
	}
	higher := c.busy()
	higher.Boot++
	holds(t, c.r, higher)
	goes(t, c.j, c.next, false, api.ErrForm)
	sticks(t, c, api.ErrForm)
	isHeld(t, c.r, higher)
}

// P22.6: what a block of the journal reads isn't what was put: told when its turn
// to go home comes, and not ahead of that; the mark is of what was put all the same.
func TestGoCorrupt(t *testing.T) {
	for i := range 5 {
		for at := range 3 { // turned ahead of all calls, ahead of the mark, behind it
			c := commits(t, shape{17, 5}, map[int][]byte{3: []byte("a"), 5: []byte("b")})
			p := c.old.plan
			if i == len(c.blocks) {
				return
			}
			turns := []int{0, p.Heads + 1, p.Heads + 2}[at]
			for step := range p.Heads + 2 + i {
				if step == turns {
					c.d.Poke(p.Journal+i, 50*at, []byte{1})
				}
				goes(t, c.j, c.next, false, api.OK)
			}
			if turns == p.Heads+2+i {
				c.d.Poke(p.Journal+i, 50*at, []byte{1})
			}
			isHeld(t, c.r, c.busy())
			before := look(c.d, c.r, c.l)
			goes(t, c.j, c.next, false, api.ErrCorrupt)
			if look(c.d, c.r, c.l) != before {
				t.Fatal("a Go that is refused leaves a trace")
			}
			flush(t, c.d) // so that the crashes that come behind take nothing away
			sticks(t, c, api.ErrCorrupt)
			isHeld(t, c.r, c.busy())
			if s, e := Boot(c.d, c.r, c.l); e != api.ErrCorrupt || s != (api.State{}) {
				t.Fatalf("Boot = %v, %d", s, e)
			}
			c.d.Poke(p.Journal+i, 50*at, []byte{1})
			if _, e := Boot(c.d, c.r, c.l); e != api.OK {
				t.Fatalf("Boot of what was turned back: %d", e)
			}
			c.new.stand(t, c.d)
		}
	}
}

// P22.6: an image that is another one's is found out by its block's digest; one
// whose turn is over may be anything.
func TestGoSwapped(t *testing.T) {
	c := commits(t, shape{17, 5}, map[int][]byte{3: []byte("a")})
	p := c.old.plan
	for range p.Heads + 3 {
		goes(t, c.j, c.next, false, api.OK)
	}
	c.d.Poke(p.Journal, 0, []byte{1})
	goes(t, c.j, c.next, false, api.OK)
	c.d.Copy(p.Journal+1, p.Journal+2)
	goes(t, c.j, c.next, false, api.ErrCorrupt)
	sticks(t, c, api.ErrCorrupt)
}

// P22.6: images that are alike, for one block and for others.
func TestGoAlike(t *testing.T) {
	d, r, l := made(t, shape{17, 5})
	j := job(t, d, r, l)
	b := bytes.Repeat([]byte{3}, 256)
	for _, block := range []int{5, 5, 6, 7, 5} {
		puts(t, j, block, b, api.OK)
	}
	next := r.Read()
	for range planned(t, shape{17, 5}).Heads + 8 {
		goes(t, j, next, false, api.OK)
	}
	goes(t, j, next, true, api.OK)
	for block := 5; block < 8; block++ {
		reads(t, d, block, b)
	}
}

// P22.6: what was put may be turned by its owner behind that; it was kept by its bytes.
func TestPutMemory(t *testing.T) {
	d, r, l := made(t, shape{1, 4})
	j := job(t, d, r, l)
	room := bytes.Repeat([]byte{3}, 300)
	b := room[:256]
	want := slices.Clone(b)
	puts(t, j, 0, b, api.OK)
	if !bytes.Equal(room, bytes.Repeat([]byte{3}, 300)) {
		t.Fatal("Put changes what it is handed")
	}
	clear(room)
	next := r.Read()
	for range 3 {
		goes(t, j, next, false, api.OK)
	}
	if r.Read().Mark != markOf(headOf(planned(t, shape{1, 4}), 0, []int{0}), [][]byte{want}) {
		t.Fatal("the mark is of other bytes")
	}
	for range 2 {
		goes(t, j, next, false, api.OK)
	}
	goes(t, j, next, true, api.OK)
	reads(t, d, 0, want)
}

// P22.5, P22.6: of a nil Job, and of one that NewJob didn't make.
func TestNoJob(t *testing.T) {
	var none *Job
	for _, j := range []*Job{none, {}} {
		for range 2 {
			puts(t, j, 0, make([]byte, 256), api.ErrNone)
			puts(t, j, -1, nil, api.ErrNone)
			goes(t, j, api.State{}, false, api.ErrNone)
		}
	}
}

// P22.5: one job behind the other, and one that was given up ahead of its mark:
// each is of what the register holds then.
func TestJobs(t *testing.T) {
	s := shape{20, 61}
	d, r, l := made(t, s)
	w := newWorld(planned(t, s), []byte("master"), false)
	for i := range 6 {
		lost := job(t, d, r, l)
		puts(t, lost, i, bytes.Repeat([]byte{byte(i)}, 256), api.OK)
		goes(t, lost, r.Read(), false, api.OK)
		next := w.with(0, 1, uint64(100*i), someTexts(20, 1+3*i))
		j := job(t, d, r, l)
		for _, block := range w.parts(next) {
			puts(t, j, block, next.blocks[block], api.OK)
		}
		done := false
		for !done {
			var e api.Errno
			if done, e = j.Go(next.state(0, uint64(i+1))); e != api.OK {
				t.Fatalf("Go: %d", e)
			}
		}
		w = next
		isHeld(t, r, w.state(0, uint64(i+1)))
		w.stand(t, d)
		w.told(t, d, r.Read(), rising(0, 20)...)
	}
}
