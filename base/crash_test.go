package base

import (
	"bytes"
	"math/rand"
	"slices"
	"testing"

	"thimble/api"
	"thimble/dev"
	"thimble/ghost"
	"thimble/plan"
	"thimble/reg"
)

// fateLists say what becomes of writes that waited: none, all, parts, in turns.
var fateLists = [][]int{nil, {0}, {256}, {100}, {0, 256}, {256, 0}, {255, 0, 1, 256, 17}, {-1, -257, 514}}

// goOn calls Go till it is done, or the power is off.
func (c *commit) goOn(t testing.TB) bool {
	t.Helper()
	for range c.steps() {
		done, e := c.j.Go(c.next)
		if e == api.ErrDown && !done && !c.d.Up() {
			return false
		}
		if e != api.OK {
			t.Fatalf("Go = %v, %d", done, e)
		}
		if done {
			return true
		}
	}
	t.Fatalf("not done behind %d calls", c.steps())
	return false
}

// run puts the images and calls Go, the power going in the access arm; it tells
// whether the job was done.
func (c *commit) run(t testing.TB, arm int) bool {
	t.Helper()
	c.j = job(t, c.d, c.r, c.l)
	c.d.Arm(arm)
	for _, block := range c.blocks {
		switch e := c.j.Put(block, c.new.blocks[block]); e {
		case api.OK:
		case api.ErrDown:
			return false
		default:
			t.Fatalf("Put(%d): %d", block, e)
		}
	}
	return c.goOn(t)
}

// allOrNone holds that a Boot that was OK found the old world or the new one,
// whole, and, if the job was done, the latter.
func (c *commit) allOrNone(t testing.TB, s api.State, boots uint32, done bool) {
	t.Helper()
	w, want := c.old, c.old.state(boots, 0)
	if s.Version > 0 || done {
		w, want = c.new, c.next
		want.Boot = boots
	}
	if s != want {
		t.Fatalf("Boot = %v, not %v", s, want)
	}
	isHeld(t, c.r, s)
	w.stand(t, c.d)
	w.told(t, c.d, s, 0, w.plan.Pages-1)
}

// boots begins so many Boots, in each of which the power goes, and one behind them
// in which it stays; it tells the state of the latter, and how many were counted.
func (c *commit) boots(t testing.TB, arms []int, fates func() []int) (api.State, uint32) {
	t.Helper()
	counted := uint32(0)
	for i, arm := range append(arms, 0) {
		c.d.Crash()
		c.d.On(fates())
		c.d.Arm(arm)
		s, e := Boot(c.d, c.r, c.l)
		if e == api.OK {
			return s, counted + 1
		}
		if e != api.ErrDown || s != (api.State{}) || i == len(arms) {
			t.Fatalf("Boot = %v, %d", s, e)
		}
		if arm > 1 {
			counted++
		}
	}
	return api.State{}, 0
}

// fresh is a commit whose images aren't put yet.
func fresh(t testing.TB, s shape, texts map[int][]byte) *commit {
	t.Helper()
	c := commits(t, s, nil)
	c.new = c.old.with(0, 1, 10, texts)
	c.blocks = c.old.parts(c.new)
	c.next = c.new.state(0, 1)
	return c
}

// accesses is how many accesses a commit takes.
func (c *commit) accesses() int { return len(c.blocks) + c.steps() }

// P22.7: the power goes in any access of the calls, whatever becomes of what waited.
func TestCrash(t *testing.T) {
	for _, s := range []shape{{1, 3}, {20, 61}, {129, 5}} {
		texts := map[int][]byte{0: []byte("a"), s.pages - 1: []byte("z")}
		if s.budget == 5 {
			delete(texts, 0)
		}
		total := fresh(t, s, texts).accesses()
		for arm := 1; arm <= total+1; arm++ {
			for _, fates := range fateLists {
				c := fresh(t, s, texts)
				done := c.run(t, arm)
				if done != (arm > total) {
					t.Fatalf("%v, armed by %d: done = %v", s, arm, done)
				}
				state, boots := c.boots(t, nil, func() []int { return fates })
				c.allOrNone(t, state, boots, done)
				// The last Write of the register in which the power stays closes the journal.
				if closed := arm > len(c.blocks)+c.old.plan.Heads+2; closed != (state.Version == 1) {
					t.Fatalf("%v, armed by %d: %v", s, arm, state)
				}
			}
		}
	}
}

// P22.7: and in any accesses of the Boots behind it, one, two or three of them.
func TestCrashBoots(t *testing.T) {
	s, texts := shape{1, 3}, map[int][]byte{0: []byte("a")}
	g := rand.New(rand.NewSource(1))
	fates := func() []int { return fateLists[g.Intn(len(fateLists))] }
	total := fresh(t, s, texts).accesses()
	for arm := 1; arm <= total+1; arm++ {
		for first := 1; first <= 7; first++ {
			for second := 1; second <= 7; second++ {
				c := fresh(t, s, texts)
				done := c.run(t, arm)
				state, boots := c.boots(t, []int{first, second, 1 + g.Intn(7)}, fates)
				c.allOrNone(t, state, boots, done)
			}
		}
	}
}

// P22.7: greater commits, and more Boots, at random; no log has a witness.
func TestCrashRandom(t *testing.T) {
	g := rand.New(rand.NewSource(2))
	fates := func() []int {
		var l []int
		for range g.Intn(5) {
			l = append(l, g.Intn(700)-200)
		}
		return l
	}
	for range 300 {
		s := []shape{{17, 7}, {20, 61}, {129, 60}, {300, 124}}[g.Intn(4)]
		texts := someTexts(s.pages, 1+g.Intn(min(s.budget/7+1, s.pages)))
		c := fresh(t, s, texts)
		done := c.run(t, 1+g.Intn(c.accesses()+2))
		var arms []int
		for range g.Intn(6) {
			arms = append(arms, 1+g.Intn(len(c.blocks)+3))
		}
		state, boots := c.boots(t, arms, fates)
		c.allOrNone(t, state, boots, done)
		quiet(t, c.l)
	}
}

// quiet holds that the log has no witness.
func quiet(t testing.TB, l *ghost.Log) {
	t.Helper()
	if a, b, ok := l.Clash(); ok {
		t.Fatalf("a clash: %x, %x", a, b)
	}
	if f, ok := l.Forged(); ok {
		t.Fatalf("forged: %v", f)
	}
	if a, b, ok := l.Twice(); ok {
		t.Fatalf("twice: %v, %v", a, b)
	}
}

// machine is a pool's device and register, told by bytes what happens to them, and
// what pages must be told then.
type machine struct {
	t     testing.TB
	d     *dev.Device
	r     *reg.Register
	l     *ghost.Log
	keys  *Keys
	plan  api.Plan
	seq   uint64
	texts []map[int][]byte // by versions, what each page is told
	bad   bool             // an adversary was at work
	steps []byte
}

func (m *machine) num() int {
	if len(m.steps) == 0 {
		return 0
	}
	n := m.steps[0]
	m.steps = m.steps[1:]
	return int(n)
}

// text is what the page is told in this version.
func (m *machine) text(version uint64, page int) []byte {
	if text, there := m.texts[version][page]; there {
		return text
	}
	return zeroPage
}

// refused holds that an answer may be a refusal, by what happened so far.
func (m *machine) refused(what string, e api.Errno) {
	m.t.Helper()
	if e == api.ErrDown && !m.d.Up() || e == api.ErrCorrupt && m.bad {
		return
	}
	m.t.Fatalf("%s: %d", what, e)
}

// read reads a page: it is told as it was committed, or refused.
func (m *machine) read(page int) {
	m.t.Helper()
	s := m.r.Read()
	b, e := Read(m.d, s, m.keys, m.l, page)
	if e != api.OK {
		m.refused("Read", e)
	} else if !bytes.Equal(b, m.text(s.Version, page)) {
		m.t.Fatalf("Read(%d) = %x, not %x", page, b, m.text(s.Version, page))
	}
}

// boot brings the machine up; all pages are read then, if nobody was at work.
func (m *machine) boot(arm int) {
	m.t.Helper()
	m.d.Crash()
	m.d.On([]int{m.num() * 2, m.num() * 2})
	m.d.Arm(arm)
	before := m.r.Read()
	s, e := Boot(m.d, m.r, m.l)
	m.d.Arm(0)
	if e != api.OK {
		m.refused("Boot", e)
		return
	}
	if s != m.r.Read() || s.Busy || s.Boot != before.Boot+1 || s.Version != before.Version {
		m.t.Fatalf("Boot = %v behind %v", s, before)
	}
	for page := range m.plan.Pages {
		m.read(page)
	}
}

// commit writes pages, by what the blocks read, as a pool would.
func (m *machine) commit(arm int) {
	m.t.Helper()
	s := m.r.Read()
	if s.Busy {
		return // a pool would be dead
	}
	blocks, texts, next, e := m.seal(s)
	if e != api.OK {
		m.refused("what a Commit reads", e)
		return
	}
	j, e := NewJob(m.d, m.r, m.l)
	if e != api.OK {
		m.t.Fatalf("NewJob: %d", e)
	}
	m.texts = append(m.texts[:next.Version], texts)
	m.d.Arm(arm)
	for _, w := range blocks {
		if e := j.Put(w.Block, w.Bytes); e != api.OK {
			m.refused("Put", e)
			return
		}
	}
	done := false
	for !done {
		if done, e = j.Go(next); e != api.OK {
			m.refused("Go", e)
			return
		}
	}
	m.d.Arm(0)
	want := next
	want.Busy, want.Mark = false, [32]byte{}
	isHeld(m.t, m.r, want)
}

// seal tells the images of a Commit of a few pages, what all pages are told behind
// it, and the state that comes of it.
func (m *machine) seal(s api.State) ([]api.Written, map[int][]byte, api.State, api.Errno) {
	texts := map[int][]byte{}
	for page := range m.plan.Pages {
		texts[page] = m.text(s.Version, page)
	}
	var out []api.Written
	tree := map[int][]byte{}
	sealed := map[int]bool{}
	for range 1 + m.num()%3 {
		page := m.num() % m.plan.Pages
		if sealed[page] {
			continue
		}
		sealed[page] = true
		path, _ := plan.Path(m.plan, page)
		var read [][]byte
		for _, block := range path {
			b, there := tree[block]
			if !there {
				var e api.Errno
				if b, e = m.d.Read(block); e != api.OK {
					return nil, nil, s, e
				}
			}
			read = append(read, slices.Clone(b))
		}
		if !rooted(m.plan, page, path, read, s.Root) {
			return nil, nil, s, api.ErrCorrupt
		}
		x := api.Entry{Epoch: 1, Boot: s.Boot, Seq: m.seq}
		m.seq++
		texts[page] = padded([]byte{byte(m.num()), byte(page)})
		out = append(out, api.Written{Block: page, Bytes: m.keys.Seal(x, page, texts[page])})
		s.Root = lay(page, path, read, x)
		for i, block := range path {
			tree[block] = read[i]
		}
	}
	for block := range m.plan.Head {
		if b, there := tree[block]; there {
			out = append(out, api.Written{Block: block, Bytes: b})
			m.l.Note(input(block, b), digest(block, b))
		}
	}
	s.Version++
	return out, texts, s, api.OK
}

// rooted tells whether a path is the one that the root stands for.
func rooted(p api.Plan, page int, path []int, read [][]byte, root [32]byte) bool {
	at := page / 16
	for i, block := range path {
		want := root[:]
		if i+1 < len(path) {
			want = read[i+1][32*(at%8) : 32*(at%8)+32]
			at /= 8
		}
		if d := digest(block, read[i]); !bytes.Equal(d[:], want) {
			return false
		}
	}
	return true
}

// lay lays an entry into a path, and tells its root.
func lay(page int, path []int, read [][]byte, x api.Entry) [32]byte {
	t := tupleOf(x, page)
	copy(read[0][16*(page%16):], []byte{byte(x.Epoch >> 24), byte(x.Epoch >> 16), byte(x.Epoch >> 8), byte(x.Epoch)})
	copy(read[0][16*(page%16)+4:], t.Nonce[:])
	at := page / 16
	for i := 1; i < len(path); i++ {
		d := digest(path[i-1], read[i-1])
		copy(read[i][32*(at%8):], d[:])
		at /= 8
	}
	return digest(path[len(path)-1], read[len(read)-1])
}

// drive goes through steps that are told by bytes; the adversary is at work in them
// only if he may be.
func drive(t testing.TB, steps []byte, adversary bool) {
	t.Helper()
	m := &machine{t: t, steps: steps, texts: []map[int][]byte{{}}}
	s := []shape{{1, 4}, {17, 9}, {20, 61}, {130, 15}}[m.num()%4]
	m.d, m.r, m.l = made(t, s)
	m.plan = planned(t, s)
	m.keys = NewKeys([]byte("master"), m.num()%2 == 0, m.l)
	m.boot(0)
	for len(m.steps) > 0 {
		switch k := m.num() % 12; {
		case k < 3:
			m.commit(0)
		case k < 6:
			m.commit(1 + m.num()%40)
			m.boot(m.num() % 30)
		case k < 7:
			m.boot(1 + m.num()%20)
		case k < 9:
			m.boot(0)
			m.read(m.num() % m.plan.Pages)
		case !adversary:
		case k == 9:
			m.bad = m.d.Poke(m.num()%m.plan.Total, m.num(), []byte{byte(m.num())}) == api.OK || m.bad
		case k == 10:
			m.d.Copy(m.num()%m.plan.Total, m.num()%m.plan.Total)
			m.bad = true
		default:
			m.d.Snap()
			m.bad = m.d.Back(m.num()%8) == api.OK || m.bad
		}
		quiet(t, m.l)
	}
	if !m.bad {
		m.boot(0)
		if m.r.Read().Busy || !m.d.Up() {
			t.Fatalf("not up at the end: %v", m.r.Read())
		}
	}
}

// Commits one behind the other, the power going anywhere: nothing is ever corrupt,
// and all pages are told as at the last Commit, or as at the one at work.
func TestMachine(t *testing.T) {
	for seed := range int64(60) {
		drive(t, noise(rand.New(rand.NewSource(seed)), 150), false)
	}
}

// And with an adversary: what is told is what was committed, or it is refused.
func TestAdversary(t *testing.T) {
	for seed := range int64(300) {
		drive(t, noise(rand.New(rand.NewSource(seed)), 150), true)
	}
}

func FuzzMachine(f *testing.F) {
	f.Add([]byte{1, 0, 3, 1, 2, 3, 4, 5}, false)
	f.Add([]byte{3, 1, 0, 9, 1, 2, 7}, true)
	f.Fuzz(func(t *testing.T, steps []byte, adversary bool) { drive(t, steps[:min(len(steps), 300)], adversary) })
}

// R1: any bytes on the device, any state that a register takes: each call ends, and
// no answer but an error or what stands there.
func FuzzAny(f *testing.F) {
	f.Add([]byte{1, 2, 3}, 1, 4, true)
	f.Add([]byte{0}, 20, 61, false)
	f.Fuzz(func(t *testing.T, b []byte, pages, budget int, busy bool) {
		d, r, l := blank(t, 300)
		for i := 0; i < len(b); i += 64 {
			d.Poke(i%300, i%200, b[i:min(i+50, len(b))])
		}
		s := api.State{Pages: pages, Budget: budget, Epoch: 1, Busy: busy}
		r.Write(s)
		if got, e := Boot(d, r, l); e != api.OK && got != (api.State{}) {
			t.Fatalf("Boot = %v, %d", got, e)
		}
		k := NewKeys(b, busy, l)
		for page := range 3 {
			if got, e := Read(d, s, k, l, page); e != api.OK && got != nil {
				t.Fatalf("Read = %x, %d", got, e)
			}
		}
		if j, e := NewJob(d, r, l); e == api.OK {
			j.Put(pages, b)
			for range 10 {
				j.Go(s)
			}
		}
	})
}
