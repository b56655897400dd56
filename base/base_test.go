package base

import (
	"bytes"
	"math"
	"math/rand"
	"slices"
	"testing"

	"thimble/api"
	"thimble/dev"
	"thimble/ghost"
	"thimble/plan"
	"thimble/reg"
)

func configOf(s shape) api.Config { return api.Config{Pages: s.pages, Budget: s.budget} }

// stateOf is what a register may hold of a shape, whether it has a plan or not.
func stateOf(s shape) api.State { return api.State{Pages: s.pages, Budget: s.budget, Epoch: 1} }

// refusesFormat holds that Format answers this error, and changes nothing.
func refusesFormat(t *testing.T, d *dev.Device, r *reg.Register, c api.Config, want api.Errno) {
	t.Helper()
	l := ghost.New()
	before := look(d, r, l)
	if e := Format(d, r, c, l); e != want || look(d, r, l) != before {
		t.Fatalf("Format of %v = %d, not %d: %v, then %v", c, e, want, before, look(d, r, l))
	}
}

// refusesBoot holds that Boot answers this error and nothing beside it, and changes nothing.
func refusesBoot(t *testing.T, d *dev.Device, r *reg.Register, want api.Errno) {
	t.Helper()
	l := ghost.New()
	before := look(d, r, l)
	if s, e := Boot(d, r, l); s != (api.State{}) || e != want || look(d, r, l) != before {
		t.Fatalf("Boot = %v, %d, not %d: %v, then %v", s, e, want, before, look(d, r, l))
	}
}

// refusesRead holds that Read answers this error and nothing beside it, and changes nothing.
func refusesRead(t *testing.T, d *dev.Device, r *reg.Register, s api.State, k *Keys, page int, want api.Errno) {
	t.Helper()
	l := ghost.New()
	if k != nil {
		k.log = l
	}
	before := look(d, r, l)
	if b, e := Read(d, s, k, l, page); b != nil || e != want || look(d, r, l) != before {
		t.Fatalf("Read(%d) = %x, %d, not %d: %v, then %v", page, b, e, want, before, look(d, r, l))
	}
}

// The chapter's first example.
func TestExampleFormat(t *testing.T) {
	d, r, l := blank(t, 12)
	if e := Format(d, r, api.Config{Pages: 1, Budget: 4}, l); e != api.OK {
		t.Fatal(e)
	}
	if w := d.Written(); len(w) != 2 || w[0].Block != 1 || w[1].Block != 2 || d.Count() != 4 || d.Waits() != 0 {
		t.Fatalf("%d writes, %d accesses", len(w), d.Count())
	}
}

// P22.2: of each shape, on a device that is full of all kinds of bytes, with room
// to the block, and more: what is written, in its order, what the register holds,
// and that all digests are noted. What of the configuration isn't named plays no part.
func TestFormat(t *testing.T) {
	for i, s := range shapes {
		p := planned(t, s)
		w := newWorld(p, nil, i%2 == 0)
		for _, more := range []int{0, 1, 300} {
			d, r, l := blank(t, p.Total+more)
			noisy(t, d, int64(i))
			pages, _ := d.Read(0)
			c := api.Config{Pages: s.pages, Budget: s.budget, Wide: w.wide, Boot: uint32(i * 1000), Frames: -more, Sessions: math.MinInt, Seq: uint64(more)}
			if e := Format(d, r, c, l); e != api.OK {
				t.Fatalf("Format of %v: %d", c, e)
			}
			blocks := rising(p.Pages, p.Counters+p.Nodes)
			wrote(t, d, 0, blocks, w.images(blocks))
			isHeld(t, r, w.state(uint32(i*1000), 0))
			reads(t, d, 0, pages)
			if d.Count() != len(blocks)+2 || d.Waits() != 0 {
				t.Fatalf("%d accesses, not %d", d.Count(), len(blocks)+2)
			}
			if h, sealed, opened := l.Count(); h == 0 || sealed+opened != 0 {
				t.Fatalf("the log has %d, %d, %d", h, sealed, opened)
			}
			if !known(l, input(p.Head-1, w.blocks[p.Head-1])) {
				t.Fatal("the top's digest wasn't noted")
			}
			w.told(t, d, r.Read(), 0, s.pages/2, s.pages-1)
		}
	}
}

// P22.2: the register at the ends of the first boot; it needs no log.
func TestFormatBoot(t *testing.T) {
	for _, boot := range []uint32{0, 1, math.MaxInt32, 1 << 31, math.MaxUint32 - 1, math.MaxUint32} {
		d, r, _ := blank(t, 12)
		if e := Format(d, r, api.Config{Pages: 1, Budget: 4, Boot: boot}, nil); e != api.OK || r.Read().Boot != boot {
			t.Fatalf("Format: %d, %v", e, r.Read())
		}
	}
}

// P22.2: no device, no register; then a register that isn't blank; then no plan, or
// no room; then no power.
func TestFormatRefused(t *testing.T) {
	good := shape{1, 4}
	bad := slices.Concat(noPlans, narrow, []shape{{129, 60}, {2, 4}, {math.MinInt, math.MaxInt}})
	for _, up := range []bool{true, false} {
		d, r, _ := blank(t, 12)
		full, held, _ := blank(t, 12)
		holds(t, held, stateOf(good))
		if !up {
			d.Crash()
			full.Crash()
		}
		for _, s := range append(bad, good) {
			for _, e := range []api.Errno{Format(nil, r, configOf(s), nil), Format(d, nil, configOf(s), nil), Format(nil, nil, configOf(s), nil), Format(nil, held, configOf(s), nil)} {
				if e != api.ErrNone {
					t.Fatalf("Format without a device or a register: %d", e)
				}
			}
			refusesFormat(t, full, held, configOf(s), api.ErrThere)
		}
		for _, s := range bad {
			refusesFormat(t, d, r, configOf(s), api.ErrArg)
		}
		if !up {
			refusesFormat(t, d, r, configOf(good), api.ErrDown)
		}
	}
}

// P22.2: a device with a block less than the plan has; a budget with one less than a page needs.
func TestFormatRoom(t *testing.T) {
	for _, s := range shapes {
		total := planned(t, s).Total
		for _, blocks := range []int{1, 2, total / 2, total - 1} {
			d, r, _ := blank(t, blocks)
			refusesFormat(t, d, r, configOf(s), api.ErrArg)
		}
	}
	for _, s := range narrow {
		total := planned(t, s).Total
		d, r, _ := blank(t, total+10)
		refusesFormat(t, d, r, configOf(s), api.ErrArg)
		if e := Format(d, r, api.Config{Pages: s.pages, Budget: s.budget + 1}, nil); e != api.OK {
			t.Fatalf("a budget of %d for %d pages: %d", s.budget+1, s.pages, e)
		}
	}
}

// P22.2: the power goes in any access: the register stays blank, and Format may begin anew.
func TestFormatPower(t *testing.T) {
	for _, s := range []shape{{1, 3}, {17, 5}, {129, 4}} {
		p := planned(t, s)
		accesses := p.Counters + p.Nodes + 2
		for arm := 1; arm <= accesses; arm++ {
			d, r, l := blank(t, p.Total)
			noisy(t, d, 5)
			d.Arm(arm)
			if e := Format(d, r, configOf(s), l); e != api.ErrDown || d.Count() != arm || d.Up() {
				t.Fatalf("armed by %d: Format = %d behind %d accesses", arm, e, d.Count())
			}
			isHeld(t, r, api.State{})
			d.On([]int{100, 0, 256})
			refusesBoot(t, d, r, api.ErrBlank)
			w := newWorld(p, nil, false)
			if e := Format(d, r, configOf(s), l); e != api.OK {
				t.Fatalf("Format anew: %d", e)
			}
			isHeld(t, r, w.state(0, 0))
			w.told(t, d, r.Read(), rising(0, s.pages)...)
		}
		d, r, l := blank(t, p.Total)
		d.Arm(accesses + 1)
		if e := Format(d, r, configOf(s), l); e != api.OK || !d.Up() {
			t.Fatalf("Format took more than %d accesses: %d", accesses, e)
		}
	}
}

// P22.3: a register that isn't busy: one access, whatever stands in the journal
// and the pages; the digest of the top is noted.
func TestBoot(t *testing.T) {
	for i, s := range shapes {
		p := planned(t, s)
		w := newWorld(p, []byte("master"), i%2 == 0)
		d, r, l := blank(t, p.Total+i)
		noisy(t, d, int64(i))
		w.lay(t, d)
		held := w.state(uint32(i), 1<<40)
		held.Epoch, held.Cursor, held.Mark = 7, s.pages/2, [32]byte{9}
		holds(t, r, held)
		for range 3 {
			n := d.Count()
			held.Boot++
			if got, e := Boot(d, r, l); e != api.OK || got != held || d.Count() != n+1 || d.Waits() != 0 {
				t.Fatalf("Boot = %v, %d, not %v; %d accesses", got, e, held, d.Count()-n)
			}
			isHeld(t, r, held)
		}
		w.stand(t, d)
		if !known(l, input(p.Head-1, w.blocks[p.Head-1])) {
			t.Fatal("the top's digest wasn't noted")
		}
		if got, e := Boot(d, r, nil); e != api.OK || got.Boot != held.Boot+1 {
			t.Fatalf("Boot without a log = %v, %d", got, e)
		}
	}
}

// P22.3: the errors ahead of the first access, in their order.
func TestBootRefused(t *testing.T) {
	last := func(s shape) api.State {
		x := stateOf(s)
		x.Boot, x.Busy = math.MaxUint32, true
		return x
	}
	for _, s := range []shape{{1, 2}, {129, 3}, {129, 60}, {1, 256}, {4096, 4}, {1, 4}} {
		d, r, _ := blank(t, 12)
		holds(t, r, last(s))
		for _, x := range []*dev.Device{d, nil} {
			for _, y := range []*reg.Register{r, nil} {
				if x == nil || y == nil {
					if got, e := Boot(x, y, nil); e != api.ErrNone || got != (api.State{}) {
						t.Fatalf("Boot = %v, %d", got, e)
					}
				}
			}
		}
		if s == (shape{1, 4}) {
			refusesBoot(t, d, r, api.ErrExhausted)
		} else {
			refusesBoot(t, d, r, api.ErrArg)
		}
		d.Crash()
		refusesBoot(t, d, r, api.ErrDown)
	}
	d, r, _ := blank(t, 12)
	refusesBoot(t, d, r, api.ErrBlank)
	d.Crash()
	refusesBoot(t, d, r, api.ErrDown)
	if got, e := Boot(nil, r, nil); e != api.ErrNone || got != (api.State{}) {
		t.Fatalf("Boot = %v, %d", got, e)
	}
	for _, s := range shapes {
		d, r, _ := blank(t, planned(t, s).Total-1)
		holds(t, r, stateOf(s))
		refusesBoot(t, d, r, api.ErrArg)
	}
}

// P22.3: the last boot but one is brought up, and the last one never again, ahead of all else.
func TestBootExhausted(t *testing.T) {
	d, r, l := blank(t, 12)
	if e := Format(d, r, api.Config{Pages: 1, Budget: 4, Boot: math.MaxUint32 - 2}, l); e != api.OK {
		t.Fatal(e)
	}
	for boot := uint32(math.MaxUint32 - 1); boot != 0; boot++ {
		if s, e := Boot(d, r, l); e != api.OK || s.Boot != boot {
			t.Fatalf("Boot = %v, %d", s, e)
		}
	}
	for range 3 {
		refusesBoot(t, d, r, api.ErrExhausted)
	}
	d.Poke(2, 0, []byte{1})
	refusesBoot(t, d, r, api.ErrExhausted)
}

// broken is what a Commit that the power broke off leaves: a world, one that is to
// come of it, and a journal that closes.
type broken struct {
	d      *dev.Device
	r      *reg.Register
	l      *ghost.Log
	old    *world
	new    *world
	blocks []int
	head   []byte
	state  api.State // what the register holds
}

// breakOff lays a journal by the chapters' words, with these images.
func breakOff(t testing.TB, s shape, texts map[int][]byte) *broken {
	t.Helper()
	p := planned(t, s)
	b := &broken{old: newWorld(p, []byte("master"), false)}
	b.d, b.r, b.l = blank(t, p.Total)
	b.new = b.old.with(3, 1, 10, texts)
	b.blocks = b.old.parts(b.new)
	b.old.lay(t, b.d)
	b.state = b.new.state(4, 77)
	b.close(t, 77, b.blocks, b.new.images(b.blocks))
	return b
}

// close lays this journal, and lets the register hold its mark.
func (b *broken) close(t testing.TB, version uint64, blocks []int, images [][]byte) {
	t.Helper()
	p := b.old.plan
	b.head = headOf(p, version, blocks)
	for i, c := range cut(b.head) {
		write(t, b.d, p.Head+i, c)
	}
	for i, c := range images {
		write(t, b.d, p.Journal+i, c)
	}
	flush(t, b.d)
	b.state.Busy, b.state.Mark = true, markOf(b.head, images)
	holds(t, b.r, b.state)
}

// refuses holds that Boot finds a fault, behind so many accesses: its boot is
// counted, and nothing else was done.
func (b *broken) refuses(t *testing.T) {
	t.Helper()
	b.state.Boot++
	before := look(b.d, b.r, b.l)
	before.count++
	before.state = b.state
	if s, e := Boot(b.d, b.r, b.l); s != (api.State{}) || e != api.ErrCorrupt || look(b.d, b.r, b.l) != before {
		t.Fatalf("Boot = %v, %d: %v, not %v", s, e, look(b.d, b.r, b.l), before)
	}
}

// finishes holds that Boot brings the images home, in order, and then no more.
func (b *broken) finishes(t *testing.T) {
	t.Helper()
	n, accesses := len(b.d.Written()), b.d.Count()
	done := b.state
	done.Boot, done.Busy, done.Mark = done.Boot+1, false, [32]byte{}
	if s, e := Boot(b.d, b.r, b.l); e != api.OK || s != done || b.d.Waits() != 0 || b.d.Count() != accesses+len(b.blocks)+3 {
		t.Fatalf("Boot = %v, %d, not %v; %d accesses for %d images", s, e, done, b.d.Count()-accesses, len(b.blocks))
	}
	isHeld(t, b.r, done)
	wrote(t, b.d, n, b.blocks, b.new.images(b.blocks))
	b.new.stand(t, b.d)
	done.Boot++
	if s, e := Boot(b.d, b.r, b.l); e != api.OK || s != done || b.d.Count() != accesses+len(b.blocks)+4 {
		t.Fatalf("the Boot behind it = %v, %d, not %v", s, e, done)
	}
}

// someTexts are for a few pages, from the first to the last one.
func someTexts(pages, many int) map[int][]byte {
	texts := map[int][]byte{}
	for i := range many {
		texts[i*(pages-1)/max(many-1, 1)] = []byte{byte(i), 'x'}
	}
	return texts
}

// P22.3: a busy register, of each shape: whatever the homes have by then, the images go there.
func TestBootBusy(t *testing.T) {
	for i, s := range shapes {
		b := breakOff(t, s, someTexts(s.pages, 1+i%2*(s.budget/60)))
		g := rand.New(rand.NewSource(int64(i)))
		for _, block := range b.blocks {
			if g.Intn(2) == 0 {
				b.d.Poke(block, g.Intn(250), noise(g, 6))
			}
		}
		b.finishes(t)
		b.new.told(t, b.d, b.r.Read(), 0, s.pages-1)
		if !known(b.l, slices.Concat([]byte{2}, b.head, bytes.Join(b.new.images(b.blocks), nil))) {
			t.Fatal("the mark wasn't noted")
		}
	}
}

// P22.3: any count of images, none too, each block several times: the last one stays.
func TestBootImages(t *testing.T) {
	for many := 0; many <= 60; many++ {
		b := breakOff(t, shape{20, 60}, nil)
		g := rand.New(rand.NewSource(int64(many)))
		b.new = b.old.with(0, 0, 0, nil)
		var blocks []int
		var images [][]byte
		for range many {
			blocks = append(blocks, g.Intn(b.old.plan.Head-1)) // not the top, whose digest is held against the root
			images = append(images, noise(g, 256))
		}
		b.close(t, 77, blocks, images)
		n := len(b.d.Written())
		if s, e := Boot(b.d, b.r, nil); e != api.OK || s.Busy {
			t.Fatalf("%d images: Boot = %v, %d", many, s, e)
		}
		wrote(t, b.d, n, blocks, images)
		for i, block := range blocks {
			if !slices.Contains(blocks[i+1:], block) {
				reads(t, b.d, block, images[i])
			}
		}
	}
}

// P22.3: one turned bit in the head or the images, any of them, and nothing goes
// home; turned back, all does.
func TestBootTurned(t *testing.T) {
	b := breakOff(t, shape{20, 61}, someTexts(20, 3))
	p := b.old.plan
	for block := p.Head; block < p.Journal+len(b.blocks); block++ {
		for at := 0; at < 256; at += 5 {
			b.d.Poke(block, at, []byte{1 << (at % 8)})
			b.refuses(t)
			b.d.Poke(block, at, []byte{1 << (at % 8)})
		}
	}
	for block := p.Journal + len(b.blocks); block < p.Total; block++ {
		b.d.Poke(block, 0, []byte{1})
	}
	b.finishes(t)
}

// P22.3: a head of which there is none, or of another version, or with a block that
// isn't below the plan's Head, is refused though the mark is right.
func TestBootHead(t *testing.T) {
	b := breakOff(t, shape{20, 60}, someTexts(20, 3))
	p := b.old.plan
	images := b.new.images(b.blocks)
	for _, version := range []uint64{0, 1, 76, 78, 77 << 8, 77 | 1<<63, math.MaxUint64} {
		b.close(t, version, b.blocks, images)
		b.refuses(t)
	}
	for _, block := range []int{p.Head, p.Head + 1, p.Journal, p.Spill, p.Total - 1, p.Total, 65535, 65536, math.MaxUint32} {
		for i := range b.blocks {
			bad := slices.Clone(b.blocks)
			bad[i] = block
			b.close(t, 77, bad, images)
			b.refuses(t)
		}
	}
	for _, at := range []int{8, 9, 10, 12 + 4*len(b.blocks), 255} {
		b.close(t, 77, b.blocks, images)
		b.d.Poke(p.Head, at, []byte{1})
		bad, _ := b.d.Read(p.Head)
		b.state.Mark = markOf(bad, images)
		holds(t, b.r, b.state)
		b.refuses(t)
	}
	b.close(t, 77, b.blocks, images)
	b.finishes(t)
}

// P22.3: more images than the head names, or fewer, aren't what the mark closes.
func TestBootCount(t *testing.T) {
	b := breakOff(t, shape{20, 60}, someTexts(20, 3))
	p := b.old.plan
	images := b.new.images(b.blocks)
	for many := range b.blocks {
		for i, c := range cut(headOf(p, 77, b.blocks[:many])) {
			write(t, b.d, p.Head+i, c)
		}
		b.refuses(t)
	}
	write(t, b.d, p.Head, headOf(p, 77, append(slices.Clone(b.blocks), 0)))
	b.refuses(t)
	b.close(t, 77, b.blocks, images)
	for _, mark := range [][32]byte{{}, markOf(b.head, nil), markOf(nil, images), markOf(b.head, images[1:])} {
		b.state.Mark = mark
		holds(t, b.r, b.state)
		b.refuses(t)
	}
}

// P22.3: the top isn't what the root stands for: told, behind what else is done.
func TestBootTop(t *testing.T) {
	for _, s := range shapes[:9] {
		p := planned(t, s)
		d, r, l := made(t, s)
		for at := range 256 {
			d.Poke(p.Head-1, at, []byte{1 << (at % 8)})
			held := r.Read()
			held.Boot++
			before := look(d, r, l)
			before.count, before.state = before.count+1, held
			if got, e := Boot(d, r, l); got != (api.State{}) || e != api.ErrCorrupt || look(d, r, l) != before {
				t.Fatalf("%v: Boot = %v, %d", s, got, e)
			}
			d.Poke(p.Head-1, at, []byte{1 << (at % 8)})
		}
		d.Poke(p.Head-2, 0, []byte{1})
		d.Poke(0, 0, []byte{1})
		if _, e := Boot(d, r, l); e != api.OK {
			t.Fatalf("%v: Boot looks at more than the top: %d", s, e)
		}
	}
}

// P22.3: images that come to another root go home, and then it is told; of each
// Boot behind it, too.
func TestBootBusyTop(t *testing.T) {
	b := breakOff(t, shape{20, 61}, someTexts(20, 3))
	b.state.Root[31] ^= 1
	holds(t, b.r, b.state)
	n := b.d.Count()
	if s, e := Boot(b.d, b.r, b.l); s != (api.State{}) || e != api.ErrCorrupt || b.d.Count() != n+len(b.blocks)+3 {
		t.Fatalf("Boot = %v, %d", s, e)
	}
	b.new.stand(t, b.d)
	b.state.Boot, b.state.Busy, b.state.Mark = b.state.Boot+1, false, [32]byte{}
	isHeld(t, b.r, b.state)
	b.refuses(t)
}

// P22.3: the power goes in any access of a Boot; the one behind it is the one that counts.
func TestBootPower(t *testing.T) {
	for _, fates := range [][]int{nil, {0}, {256}, {100}, {0, 256}, {7, 255, 0}} {
		for arm := 1; arm <= 8; arm++ {
			b := breakOff(t, shape{20, 61}, someTexts(20, 2))
			b.d.Arm(arm)
			s, e := Boot(b.d, b.r, b.l)
			if arm > len(b.blocks)+3 {
				if e != api.OK {
					t.Fatalf("Boot took more than %d accesses: %d", arm-1, e)
				}
				continue
			}
			if s != (api.State{}) || e != api.ErrDown {
				t.Fatalf("armed by %d: Boot = %v, %d", arm, s, e)
			}
			refusesBoot(t, b.d, b.r, api.ErrDown)
			b.d.On(fates)
			if arm > 1 {
				b.state.Boot++
			}
			isHeld(t, b.r, b.state)
			b.finishes(t)
		}
	}
}

// P22.4: each page of each shape, sealed or not, as another hand laid it; a Read is
// no access, and what it took is noted.
func TestRead(t *testing.T) {
	for i, s := range shapes {
		p := planned(t, s)
		w := newWorld(p, []byte("master"), i%2 == 0)
		texts := someTexts(s.pages, min(s.pages, 40))
		w = w.with(3, 1, 1<<40, texts)
		d, r, l := blank(t, p.Total)
		noisy(t, d, int64(i))
		w.lay(t, d)
		k := NewKeys([]byte("master"), w.wide, l)
		opened := 0
		for page := range s.pages {
			_, sealed := texts[page]
			if sealed {
				opened++
			} else if page%7 > 0 && page < s.pages-2 {
				continue
			} else {
				d.Poke(page, 3, []byte{1, 2, 3})
			}
			before := look(d, r, l)
			b, e := Read(d, w.state(9, 9), k, l, page)
			if e != api.OK || !bytes.Equal(b, w.texts[page]) {
				t.Fatalf("%v: Read(%d) = %x, %d, not %x", s, page, b, e, w.texts[page])
			}
			after := look(d, r, l)
			if after.hashed == before.hashed || after.opened != opened {
				t.Fatalf("%v: noted of Read(%d): %v, then %v", s, page, before, after)
			}
			before.hashed, before.opened, before.forged = after.hashed, opened, opened > 0
			if after != before {
				t.Fatalf("%v: Read(%d) did something: %v, then %v", s, page, before, after)
			}
		}
		path, _ := plan.Path(p, s.pages-1)
		if !known(l, input(path[i%len(path)], w.blocks[path[i%len(path)]])) {
			t.Fatalf("%v: a digest of the path wasn't noted", s)
		}
		w.told(t, d, w.state(1, 1), 0, s.pages-1)
	}
}

// P22.4: what counts of a state is its plan and its root, whether a register might
// hold it or not; what waits is read.
func TestReadState(t *testing.T) {
	w := newWorld(planned(t, shape{17, 5}), []byte("master"), true).with(1, 1, 1, someTexts(17, 3))
	d, _, _ := blank(t, w.plan.Total)
	for block, b := range w.blocks {
		write(t, d, block, b)
	}
	for _, s := range []api.State{
		{Pages: 17, Budget: 5, Root: w.root},
		{Pages: 17, Budget: 5, Root: w.root, Cursor: -8, Busy: true, Mark: [32]byte{1}},
		{Pages: 17, Budget: 5, Root: w.root, Cursor: 18, Boot: math.MaxUint32, Version: math.MaxUint64, Epoch: math.MaxUint32},
		{Pages: 17, Budget: 4, Root: w.root},
	} {
		w.told(t, d, s, rising(0, 17)...)
	}
}

// P22.4: no device, no keys; then no plan, no room, no such page; then no power.
func TestReadRefused(t *testing.T) {
	good := shape{17, 5}
	for _, up := range []bool{true, false} {
		d, r, _ := made(t, good)
		s := r.Read()
		if !up {
			d.Crash()
		}
		for _, page := range []int{math.MinInt, -1, 0, 16, 17, math.MaxInt} {
			for _, x := range []api.State{s, {}} {
				for _, k := range []*Keys{nil, NewKeys(nil, false, nil)} {
					if b, e := Read(nil, x, k, nil, page); b != nil || e != api.ErrNone {
						t.Fatalf("Read without a device = %x, %d", b, e)
					}
				}
				refusesRead(t, d, r, x, nil, page, api.ErrNone)
			}
		}
		k := NewKeys(nil, false, nil)
		for _, page := range []int{math.MinInt, math.MinInt + 16, -16, -1, 17, 18, 32, 4096, math.MaxInt32, math.MaxInt - 1, math.MaxInt} {
			refusesRead(t, d, r, s, k, page, api.ErrArg)
		}
		for _, x := range slices.Concat(noPlans, narrow, []shape{{17, 256}, {4096, 200}}) {
			bad := s
			bad.Pages, bad.Budget = x.pages, x.budget
			refusesRead(t, d, r, bad, k, 0, api.ErrArg)
		}
		small, q, _ := blank(t, planned(t, good).Total-1)
		refusesRead(t, small, q, s, k, 0, api.ErrArg)
		if !up {
			refusesRead(t, d, r, s, k, 0, api.ErrDown)
			refusesRead(t, d, r, s, k, 16, api.ErrDown)
		}
	}
}

// P22.4: one turned bit in any block of the path, or in a sealed page's, or in the
// root, or other keys: refused, and nothing is noted.
func TestReadCorrupt(t *testing.T) {
	for _, s := range []shape{{1, 4}, {20, 60}, {129, 4}, {1025, 5}} {
		w := newWorld(planned(t, s), []byte("master"), false).with(1, 1, 1, map[int][]byte{s.pages - 1: []byte("text")})
		d, r, _ := blank(t, w.plan.Total)
		w.lay(t, d)
		page := s.pages - 1
		path, _ := plan.Path(w.plan, page)
		for _, block := range append(path, page) {
			for at := range 256 {
				d.Poke(block, at, []byte{1 << (at % 8)})
				refusesRead(t, d, r, w.state(1, 1), NewKeys(w.master, false, nil), page, api.ErrCorrupt)
				d.Poke(block, at, []byte{1 << (at % 8)})
			}
		}
		for i := range 32 {
			x := w.state(1, 1)
			x.Root[i] ^= 1 << (i % 8)
			refusesRead(t, d, r, x, NewKeys(w.master, false, nil), page, api.ErrCorrupt)
		}
		refusesRead(t, d, r, w.state(1, 1), NewKeys(w.master, true, nil), page, api.ErrCorrupt)
		refusesRead(t, d, r, w.state(1, 1), NewKeys([]byte("other"), false, nil), page, api.ErrCorrupt)
		w.told(t, d, w.state(1, 1), page)
	}
}

// P22.4: pages, counter blocks or all of them as they once were, or as another one is.
func TestReadLaidBack(t *testing.T) {
	old := newWorld(planned(t, shape{20, 60}), []byte("master"), false).with(1, 1, 1, someTexts(20, 20))
	w := old.with(1, 1, 100, map[int][]byte{3: []byte("new"), 17: []byte("new")})
	d, r, _ := blank(t, w.plan.Total)
	for _, laid := range [][]int{{3}, {20}, {22}, {3, 20}, {20, 22}, {3, 20, 22}, rising(0, 23)} {
		w.lay(t, d)
		for _, block := range laid {
			write(t, d, block, old.blocks[block])
		}
		refusesRead(t, d, r, w.state(1, 1), NewKeys(w.master, false, nil), 3, api.ErrCorrupt)
		if !slices.Contains(laid, 22) {
			w.told(t, d, w.state(1, 1), 17)
		}
	}
	w.lay(t, d)
	d.Copy(4, 3)
	refusesRead(t, d, r, w.state(1, 1), NewKeys(w.master, false, nil), 3, api.ErrCorrupt)
	d.Copy(20, 21)
	refusesRead(t, d, r, w.state(1, 1), NewKeys(w.master, false, nil), 17, api.ErrCorrupt)
	w.told(t, d, w.state(1, 1), 4)
}

// P22.4: an entry that isn't zero in just one of its numbers is one; a page under a
// zero entry isn't opened, though it could be.
func TestReadEntry(t *testing.T) {
	for _, x := range entries {
		w := newWorld(planned(t, shape{1, 4}), []byte("master"), false)
		w.entries[0], w.texts[0] = x, padded([]byte("text"))
		w.blocks[0] = sealed(w.master, false, x, 0, w.texts[0])
		w.grow()
		if x == (api.Entry{}) {
			w.texts[0] = zeroPage
		}
		d, _, l := blank(t, w.plan.Total)
		w.lay(t, d)
		w.told(t, d, w.state(1, 1), 0)
		Read(d, w.state(1, 1), NewKeys(w.master, false, l), nil, 0)
		if _, _, opened := l.Count(); (opened > 0) != (x != api.Entry{}) {
			t.Fatalf("under %v: %d were opened", x, opened)
		}
	}
}

// R4: what is answered is new memory.
func TestReadMemory(t *testing.T) {
	d, r, l := made(t, shape{1, 4})
	k := NewKeys(nil, false, l)
	for range 3 {
		b, e := Read(d, r.Read(), k, l, 0)
		if e != api.OK || !bytes.Equal(b, zeroPage) {
			t.Fatalf("Read = %x, %d", b, e)
		}
		b[0] = 9
	}
}

// R5: a register whose power is another device's: nothing is done, if either is off.
func TestOtherPower(t *testing.T) {
	far, r, _ := blank(t, 1)
	d, _, _ := blank(t, 12)
	far.Crash()
	refusesFormat(t, d, r, configOf(shape{1, 4}), api.ErrDown)
	far.On(nil)
	if e := Format(d, r, configOf(shape{1, 4}), nil); e != api.OK || d.Count() != 3 || far.Count() != 1 {
		t.Fatalf("Format: %d, %d and %d accesses", e, d.Count(), far.Count())
	}
	far.Crash()
	refusesBoot(t, d, r, api.ErrDown)
	far.On(nil)
	d.Crash()
	refusesBoot(t, d, r, api.ErrDown)
	other, _ := reg.New(far)
	refusesFormat(t, d, other, configOf(shape{1, 4}), api.ErrDown)
}

// R1: a device and a register that New didn't make.
func TestZeroObjects(t *testing.T) {
	d, r, l := made(t, shape{1, 4})
	k := NewKeys(nil, false, l)
	var noDevice dev.Device
	var noRegister reg.Register
	if e := Format(&noDevice, &noRegister, configOf(shape{1, 4}), l); e != api.ErrArg {
		t.Fatalf("Format: %d", e)
	}
	refusesBoot(t, &noDevice, r, api.ErrDown)
	refusesBoot(t, d, &noRegister, api.ErrBlank)
	refusesRead(t, &noDevice, r, r.Read(), k, 0, api.ErrArg)
	if j, e := NewJob(&noDevice, r, l); j != nil || e != api.ErrArg {
		t.Fatalf("NewJob: %d", e)
	}
	refusesFormat(t, d, &noRegister, configOf(shape{1, 4}), api.ErrDown)
}
