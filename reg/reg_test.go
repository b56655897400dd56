package reg

import (
	"math"
	"math/rand"
	"slices"
	"testing"

	"thimble/api"
	"thimble/dev"
)

// faults tells what is not right in a state, by the chapter's words.
func faults(s api.State) []string {
	var told []string
	if s.Pages < 1 || s.Pages > 4096 {
		told = append(told, "Pages")
	}
	if s.Budget < 1 || s.Budget > 256 {
		told = append(told, "Budget")
	}
	if s.Cursor < 0 || s.Cursor > s.Pages {
		told = append(told, "Cursor")
	}
	if s.Epoch == 0 {
		told = append(told, "Epoch")
	}
	return told
}

// hurdles tells why b may not follow a, by the chapter's words.
func hurdles(a, b api.State) []string {
	told := faults(b)
	if a == (api.State{}) {
		return told
	}
	if a.Pages != b.Pages {
		told = append(told, "other Pages")
	}
	if a.Budget != b.Budget {
		told = append(told, "other Budget")
	}
	if a.Wide != b.Wide {
		told = append(told, "other Wide")
	}
	if b.Boot < a.Boot {
		told = append(told, "lower Boot")
	}
	if b.Version < a.Version {
		told = append(told, "lower Version")
	}
	if b.Epoch < a.Epoch {
		told = append(told, "lower Epoch")
	}
	return told
}

// plain is a state that is right, with room on all sides of its numbers.
func plain() api.State {
	return api.State{
		Pages: 10, Budget: 20, Wide: true, Boot: 5, Version: 6, Epoch: 7, Cursor: 3, Busy: true,
		Root: [32]byte{1, 2, 3}, Mark: [32]byte{4, 5, 6},
	}
}

// turned is a state with one thing changed.
func turned(s api.State, turn func(*api.State)) api.State {
	turn(&s)
	return s
}

// single are states that differ from the zero one in one field alone.
func single() []api.State {
	return []api.State{
		{Pages: 1}, {Pages: -1}, {Budget: 1}, {Budget: -1}, {Wide: true}, {Boot: 1}, {Version: 1}, {Epoch: 1},
		{Cursor: 1}, {Cursor: -1}, {Busy: true}, {Root: [32]byte{1}}, {Root: [32]byte{31: 1}},
		{Mark: [32]byte{1}}, {Mark: [32]byte{31: 1}},
	}
}

// edges are numbers at which something ends.
func edges() []int {
	return []int{
		math.MinInt, math.MinInt + 1, math.MinInt32, -4096, -256, -2, -1, 0, 1, 2, 3, 255, 256, 257, 258,
		4095, 4096, 4097, 65536, math.MaxInt32, math.MaxInt - 1, math.MaxInt,
	}
}

func right(t testing.TB, s api.State, want bool) {
	t.Helper()
	if Right(s) != want {
		t.Fatalf("Right(%+v): %v", s, !want)
	}
}

func follows(t testing.TB, a, b api.State, want bool) {
	t.Helper()
	if Follows(a, b) != want {
		t.Fatalf("Follows(%+v, %+v): %v", a, b, !want)
	}
}

// made is a new device, and a register that has its power.
func made(t testing.TB) (*dev.Device, *Register) {
	t.Helper()
	d, e := dev.New(2)
	if e != api.OK {
		t.Fatal(e)
	}
	r, e := New(d)
	if r == nil || e != api.OK {
		t.Fatalf("New: %v, %d", r, e)
	}
	return d, r
}

func writes(t testing.TB, r *Register, s api.State, want api.Errno) {
	t.Helper()
	if got := r.Write(s); got != want {
		t.Fatalf("Write(%+v): %d, not %d", s, got, want)
	}
}

func holds(t testing.TB, r *Register, want api.State) {
	t.Helper()
	for range 2 {
		if got := r.Read(); got != want {
			t.Fatalf("Read: %+v, not %+v", got, want)
		}
	}
}

// stands holds how many accesses there were, and whether the power is on.
func stands(t testing.TB, d *dev.Device, count int, up bool) {
	t.Helper()
	if d.Count() != count || d.Up() != up {
		t.Fatalf("%d accesses, the power %v, not %d, %v", d.Count(), d.Up(), count, up)
	}
}

// P11.1: the edges of what is right, one by one.
func TestRightEdges(t *testing.T) {
	cases := []struct {
		pages, budget, cursor int
		epoch                 uint32
		want                  bool
	}{
		{1, 1, 0, 1, true},
		{0, 1, 0, 1, false}, {-1, 1, 0, 1, false}, {math.MinInt, 1, 0, 1, false},
		{2, 1, 0, 1, true}, {4095, 1, 0, 1, true}, {4096, 1, 0, 1, true}, {4097, 1, 0, 1, false}, {math.MaxInt, 1, 0, 1, false},
		{1, 0, 0, 1, false}, {1, -1, 0, 1, false}, {1, math.MinInt, 0, 1, false},
		{1, 2, 0, 1, true}, {1, 255, 0, 1, true}, {1, 256, 0, 1, true}, {1, 257, 0, 1, false}, {1, math.MaxInt, 0, 1, false},
		{1, 1, -1, 1, false}, {1, 1, 1, 1, true}, {1, 1, 2, 1, false}, {1, 1, math.MinInt, 1, false}, {1, 1, math.MaxInt, 1, false},
		{7, 1, 6, 1, true}, {7, 1, 7, 1, true}, {7, 1, 8, 1, false},
		{4096, 256, 4096, math.MaxUint32, true}, {4096, 256, 4097, 1, false}, {4097, 256, 4097, 1, false},
		{-3, 1, -3, 1, false}, {0, 0, 0, 0, false},
		{1, 1, 0, 0, false}, {1, 1, 0, 2, true}, {4096, 256, 4096, 0, false},
	}
	for _, c := range cases {
		right(t, api.State{Pages: c.pages, Budget: c.budget, Cursor: c.cursor, Epoch: c.epoch}, c.want)
	}
	right(t, api.State{}, false)
	for _, s := range single() {
		right(t, s, false)
	}
}

// P11.1: all numbers of the edges with one another.
func TestRightProduct(t *testing.T) {
	for _, pages := range edges() {
		for _, budget := range edges() {
			for _, cursor := range append(edges(), pages, pages-1, pages+1) {
				for _, epoch := range []uint32{0, 1, math.MaxUint32} {
					s := api.State{Pages: pages, Budget: budget, Cursor: cursor, Epoch: epoch}
					right(t, s, len(faults(s)) == 0)
				}
			}
		}
	}
}

// P11.1: whether a state is right hangs on four of its fields alone.
func TestRightWhateverElse(t *testing.T) {
	for _, turn := range free() {
		right(t, turned(plain(), turn), true)
		right(t, turned(turned(plain(), turn), func(s *api.State) { s.Epoch = 0 }), false)
	}
	for _, turn := range []func(*api.State){
		func(s *api.State) { s.Wide = false },
		func(s *api.State) { s.Boot = 0 },
		func(s *api.State) { s.Boot = math.MaxUint32 },
		func(s *api.State) { s.Version = 0 },
		func(s *api.State) { s.Version = math.MaxUint64 },
	} {
		right(t, turned(plain(), turn), true)
	}
}

// free turns what a state that follows may have as it likes.
func free() []func(*api.State) {
	return []func(*api.State){
		func(s *api.State) {},
		func(s *api.State) { s.Busy = !s.Busy },
		func(s *api.State) { s.Root = [32]byte{} },
		func(s *api.State) { s.Root[31] ^= 0xff },
		func(s *api.State) { s.Mark = [32]byte{} },
		func(s *api.State) { s.Mark[0] ^= 1 },
		func(s *api.State) { s.Root, s.Mark = s.Mark, s.Root },
		func(s *api.State) { s.Cursor = 0 },
		func(s *api.State) { s.Cursor-- },
		func(s *api.State) { s.Cursor++ },
		func(s *api.State) { s.Cursor = s.Pages },
	}
}

// P11.1: a state that is right follows the zero one, whatever it has, and none
// follows that isn't right.
func TestFollowsBlank(t *testing.T) {
	zero := api.State{}
	follows(t, zero, zero, false)
	follows(t, zero, plain(), true)
	follows(t, plain(), zero, false)
	least := api.State{Pages: 1, Budget: 1, Epoch: 1}
	most := api.State{
		Pages: api.MaxPages, Budget: api.MaxBudget, Wide: true, Boot: math.MaxUint32, Version: math.MaxUint64,
		Epoch: math.MaxUint32, Cursor: api.MaxPages, Busy: true,
	}
	follows(t, zero, least, true)
	follows(t, zero, most, true)
	follows(t, least, least, true)
	follows(t, most, most, true)
	follows(t, least, zero, false)
	follows(t, most, zero, false)
	follows(t, most, least, false)
	for _, s := range single() {
		follows(t, zero, s, false)
		follows(t, s, zero, false)
		follows(t, s, s, false)
		follows(t, plain(), s, false)
		follows(t, s, plain(), false)
		follows(t, s, least, false) // one thing in it is enough: it isn't blank
	}
}

// P11.1: a state need not be right to be followed.
func TestFollowsWhatIsNotRight(t *testing.T) {
	for _, turn := range []func(*api.State){
		func(s *api.State) { s.Epoch = 0 },
		func(s *api.State) { s.Cursor = -1 },
		func(s *api.State) { s.Cursor = s.Pages + 1 },
	} {
		a := turned(plain(), turn)
		follows(t, a, plain(), true)
		follows(t, a, a, false)
		follows(t, plain(), a, false)
		follows(t, api.State{}, a, false)
	}
	for _, turn := range []func(*api.State){
		func(s *api.State) { s.Pages = 0 },
		func(s *api.State) { s.Pages = api.MaxPages + 1 },
		func(s *api.State) { s.Budget = 0 },
		func(s *api.State) { s.Budget = api.MaxBudget + 1 },
	} {
		a := turned(plain(), turn)
		follows(t, a, plain(), false)
		follows(t, a, a, false)
		follows(t, plain(), a, false)
	}
}

// P11.1: Pages, Budget and Wide stay.
func TestFollowsLayout(t *testing.T) {
	for _, turn := range []func(*api.State){
		func(s *api.State) { s.Pages++ },
		func(s *api.State) { s.Pages-- },
		func(s *api.State) { s.Budget++ },
		func(s *api.State) { s.Budget-- },
		func(s *api.State) { s.Wide = false },
		func(s *api.State) { s.Pages, s.Budget = s.Budget, s.Pages },
	} {
		other := turned(plain(), turn)
		follows(t, plain(), other, false)
		follows(t, other, plain(), false)
		follows(t, other, other, true)
		risen := turned(other, func(s *api.State) { s.Boot++; s.Version++; s.Epoch++ })
		follows(t, plain(), risen, false)
		follows(t, other, risen, true)
	}
}

// P11.1: Boot, Version and Epoch each lower, the same, higher, at the greatest.
func TestFollowsRises(t *testing.T) {
	small := []uint32{1, 2, 3, 1<<31 - 1, 1 << 31, math.MaxUint32 - 1, math.MaxUint32}
	great := []uint64{0, 1, 2, 1<<32 - 1, 1 << 32, 1<<63 - 1, 1 << 63, math.MaxUint64 - 1, math.MaxUint64}
	for _, x := range small {
		for _, y := range small {
			a, b := plain(), plain()
			a.Boot, b.Boot = x, y
			follows(t, a, b, x <= y)
			a, b = plain(), plain()
			a.Epoch, b.Epoch = x, y
			follows(t, a, b, x <= y)
		}
		a, b := plain(), plain()
		a.Boot, b.Boot = 0, x
		follows(t, a, b, true)
		follows(t, b, a, false)
	}
	for _, x := range great {
		for _, y := range great {
			a, b := plain(), plain()
			a.Version, b.Version = x, y
			follows(t, a, b, x <= y)
		}
	}
}

// P11.1: one of the three that is lower is enough, however high the others are.
func TestFollowsEachRises(t *testing.T) {
	steps := []int{-1, 0, 1}
	for _, boot := range steps {
		for _, version := range steps {
			for _, epoch := range steps {
				b := plain()
				b.Boot += uint32(boot)
				b.Version += uint64(version)
				b.Epoch += uint32(epoch)
				follows(t, plain(), b, boot >= 0 && version >= 0 && epoch >= 0)
			}
		}
	}
	for _, turn := range []func(*api.State){
		func(s *api.State) { s.Boot, s.Version, s.Epoch = 4, math.MaxUint64, math.MaxUint32 },
		func(s *api.State) { s.Boot, s.Version, s.Epoch = math.MaxUint32, 5, math.MaxUint32 },
		func(s *api.State) { s.Boot, s.Version, s.Epoch = math.MaxUint32, math.MaxUint64, 6 },
	} {
		follows(t, plain(), turned(plain(), turn), false)
	}
}

// P11.1: Busy, Root, Mark and Cursor turn freely, as far as the state is right.
func TestFollowsFree(t *testing.T) {
	for _, one := range free() {
		for _, other := range free() {
			a, b := turned(plain(), one), turned(plain(), other)
			follows(t, a, b, true)
			follows(t, b, a, true)
		}
	}
	for _, cursor := range []int{-1, plain().Pages + 1, math.MinInt, math.MaxInt} {
		follows(t, plain(), turned(plain(), func(s *api.State) { s.Cursor = cursor }), false)
	}
}

// P11.2: the chapter's examples.
func TestExamples(t *testing.T) {
	d, r := made(t)
	five := api.State{Pages: 1, Budget: 1, Epoch: 1, Boot: 5}
	writes(t, r, five, api.OK)
	writes(t, r, api.State{Pages: 1, Budget: 1, Epoch: 1, Boot: 4}, api.ErrForm)
	holds(t, r, five)
	d.Arm(1)
	writes(t, r, api.State{Pages: 1, Budget: 1, Epoch: 1, Boot: 6}, api.ErrDown)
	holds(t, r, five)
}

// P11.2: New, with and without a device.
func TestNew(t *testing.T) {
	d, r := made(t)
	holds(t, r, api.State{})
	stands(t, d, 0, true)
	if r, e := New(nil); r != nil || e != api.ErrNone {
		t.Fatalf("New(nil): %v, %d", r, e)
	}
	d.Crash() // a register may be made while the power is off
	r, e := New(d)
	if r == nil || e != api.OK {
		t.Fatalf("New: %v, %d", r, e)
	}
	holds(t, r, api.State{})
	writes(t, r, plain(), api.ErrDown)
	d.On(nil)
	writes(t, r, plain(), api.OK)
	holds(t, r, plain())
	stands(t, d, 1, true)
}

// P11.2: a nil register, in each call.
func TestNil(t *testing.T) {
	var r *Register
	for _, s := range append(single(), api.State{}, plain()) {
		writes(t, r, s, api.ErrNone)
		holds(t, r, api.State{})
	}
}

// Beyond the promises: a register that New did not make is blank, without power.
func TestZero(t *testing.T) {
	r := &Register{}
	holds(t, r, api.State{})
	writes(t, r, plain(), api.ErrDown)
	writes(t, r, api.State{}, api.ErrDown)
	holds(t, r, api.State{})
}

// P11.2: what is written is held whole, in each field.
func TestWriteEachField(t *testing.T) {
	d, r := made(t)
	s := plain()
	writes(t, r, s, api.OK)
	holds(t, r, s)
	risen := []func(*api.State){
		func(s *api.State) { s.Boot++ },
		func(s *api.State) { s.Version++ },
		func(s *api.State) { s.Epoch++ },
		func(s *api.State) { s.Boot, s.Version, s.Epoch = math.MaxUint32, math.MaxUint64, math.MaxUint32 },
	}
	n := 1
	for _, turn := range slices.Concat(free(), risen, free()) {
		next := turned(s, turn)
		if !Right(next) {
			continue
		}
		s = next
		writes(t, r, s, api.OK)
		holds(t, r, s)
		n++
		stands(t, d, n, true)
	}
	if n < 20 {
		t.Fatalf("%d Writes are too few", n)
	}
	for _, turn := range []func(*api.State){ // at the greatest nothing wraps
		func(s *api.State) { s.Boot++ },
		func(s *api.State) { s.Version++ },
		func(s *api.State) { s.Boot-- },
		func(s *api.State) { s.Version-- },
		func(s *api.State) { s.Epoch-- },
		func(s *api.State) { s.Epoch = 1 },
	} {
		writes(t, r, turned(s, turn), api.ErrForm)
		holds(t, r, s)
		stands(t, d, n, true)
	}
}

// P11.2: a state that is held already may be written again, and that is an
// access.
func TestWriteTheSame(t *testing.T) {
	d, r := made(t)
	for i := range 4 {
		writes(t, r, plain(), api.OK)
		holds(t, r, plain())
		stands(t, d, i+1, true)
	}
}

// refused are states that may not follow plain.
func refused() []api.State {
	told := append(single(), api.State{})
	for _, turn := range []func(*api.State){
		func(s *api.State) { s.Pages++ },
		func(s *api.State) { s.Budget-- },
		func(s *api.State) { s.Wide = false },
		func(s *api.State) { s.Boot-- },
		func(s *api.State) { s.Version-- },
		func(s *api.State) { s.Epoch-- },
		func(s *api.State) { s.Epoch = 0 },
		func(s *api.State) { s.Cursor = -1 },
		func(s *api.State) { s.Cursor = s.Pages + 1 },
		func(s *api.State) { s.Pages, s.Cursor = math.MaxInt, math.MaxInt },
		func(s *api.State) { s.Budget = math.MinInt },
	} {
		told = append(told, turned(plain(), turn))
	}
	return told
}

// P11.2, R5: a Write that is refused by ErrForm is no access: nothing that is
// armed comes nearer, and the register holds what it held.
func TestWriteRefused(t *testing.T) {
	d, r := made(t)
	for _, s := range append(single(), api.State{}) {
		writes(t, r, s, api.ErrForm)
		holds(t, r, api.State{})
		stands(t, d, 0, true)
	}
	writes(t, r, plain(), api.OK)
	d.Arm(1)
	for _, s := range refused() {
		writes(t, r, s, api.ErrForm)
		holds(t, r, plain())
		stands(t, d, 1, true)
	}
	writes(t, r, plain(), api.ErrDown)
	stands(t, d, 2, false)
}

// P11.2, R2: while the power is off each Write is ErrDown, of any state, and no
// access; the register is read all the same.
func TestWriteWhileDown(t *testing.T) {
	d, r := made(t)
	d.Crash()
	holds(t, r, api.State{})
	writes(t, r, plain(), api.ErrDown)
	writes(t, r, api.State{}, api.ErrDown)
	holds(t, r, api.State{})
	d.On(nil)
	writes(t, r, plain(), api.OK)
	d.Crash()
	higher := turned(plain(), func(s *api.State) { s.Version++ })
	for _, s := range append(refused(), plain(), higher) {
		writes(t, r, s, api.ErrDown)
		holds(t, r, plain())
		stands(t, d, 1, false)
	}
	d.On([]int{256})
	holds(t, r, plain())
	writes(t, r, higher, api.OK)
	holds(t, r, higher)
	stands(t, d, 2, true)
}

// P11.2: the power goes in the n-th Write: that one is an access all the same,
// and leaves what was held.
func TestPowerGoes(t *testing.T) {
	for n := 1; n <= 5; n++ {
		d, r := made(t)
		d.Arm(n)
		s := plain()
		for i := 1; i < n; i++ {
			s.Version++
			writes(t, r, s, api.OK)
			holds(t, r, s)
			stands(t, d, i, true)
		}
		if n == 1 {
			s = api.State{}
		}
		next := turned(plain(), func(next *api.State) { next.Version = s.Version + 10 })
		for range 3 {
			writes(t, r, next, api.ErrDown)
			holds(t, r, s)
			stands(t, d, n, false)
		}
		d.On(nil)
		holds(t, r, s)
		writes(t, r, next, api.OK)
		holds(t, r, next)
		stands(t, d, n+1, true)
	}
}

// P11.2: the device's own accesses bring nearer what is armed, too.
func TestPowerIsShared(t *testing.T) {
	d, r := made(t)
	d.Arm(4)
	d.Write(0, make([]byte, api.Block))
	writes(t, r, plain(), api.OK)
	d.Flush()
	higher := turned(plain(), func(s *api.State) { s.Boot++ })
	writes(t, r, higher, api.ErrDown)
	stands(t, d, 4, false)
	d.On(nil)
	d.Arm(2)
	writes(t, r, higher, api.OK)
	if e := d.Write(0, make([]byte, api.Block)); e != api.ErrDown {
		t.Fatalf("Write of the device: %d", e)
	}
	stands(t, d, 6, false)
	holds(t, r, higher)
}

// P11.2, R6: registers of one device share its power, and nothing else; those
// of two share nothing.
func TestApart(t *testing.T) {
	d, r := made(t)
	other, e := New(d)
	if e != api.OK {
		t.Fatal(e)
	}
	far, third := made(t)
	small := api.State{Pages: 1, Budget: 1, Epoch: 1}
	writes(t, r, plain(), api.OK)
	holds(t, other, api.State{})
	writes(t, other, small, api.OK)
	holds(t, r, plain())
	holds(t, other, small)
	holds(t, third, api.State{})
	d.Crash()
	writes(t, r, plain(), api.ErrDown)
	writes(t, other, small, api.ErrDown)
	writes(t, third, small, api.OK)
	stands(t, d, 2, false)
	stands(t, far, 1, true)
	holds(t, r, plain())
}

// P11.3: nothing that happens to the device turns the register.
func TestDeviceTurnsNothing(t *testing.T) {
	d, r := made(t)
	writes(t, r, plain(), api.OK)
	if _, e := d.Snap(); e != api.OK {
		t.Fatal(e)
	}
	higher := turned(plain(), func(s *api.State) { s.Epoch++; s.Root = [32]byte{9} })
	writes(t, r, higher, api.OK)
	for _, happens := range []func(){
		func() { d.Write(0, make([]byte, api.Block)) },
		func() { d.Back(0) },
		func() { d.Poke(0, 0, []byte{1, 2, 3}) },
		func() { d.Copy(0, 1) },
		func() { d.Flush() },
		func() { d.Spend() },
		func() { d.Crash() },
		func() { d.Back(0) },
		func() { d.On([]int{0}) },
		func() { d.Arm(1) },
		func() { d.Spend() },
		func() { d.On(nil) },
	} {
		happens()
		holds(t, r, higher)
	}
	writes(t, r, plain(), api.ErrForm)
	if d.Waits() != 0 || len(d.Written()) != 1 {
		t.Fatal("the register wrote to the device")
	}
}

// R4: who turns what was handed in, or handed back, turns nothing in the register.
func TestValues(t *testing.T) {
	_, r := made(t)
	s := plain()
	writes(t, r, s, api.OK)
	s.Root[0] ^= 1
	s.Boot++
	holds(t, r, plain())
	back := r.Read()
	back.Mark[5] ^= 1
	back.Boot--
	holds(t, r, plain())
}

// book is what a register must hold and answer, by the chapter's words.
type book struct {
	held  []api.State // all that it held, in order
	armed int
	down  bool
	count int
}

func (b *book) now() api.State { return b.held[len(b.held)-1] }

func (b *book) write(s api.State) api.Errno {
	if b.down {
		return api.ErrDown
	}
	if len(hurdles(b.now(), s)) > 0 {
		return api.ErrForm
	}
	b.count++
	if b.armed > 0 {
		b.armed--
		b.down = b.armed == 0
	}
	if b.down {
		return api.ErrDown
	}
	b.held = append(b.held, s)
	return api.OK
}

// run goes through steps that are told by bytes, with a register and its book.
func run(t testing.TB, steps []byte) {
	next := func() int {
		if len(steps) == 0 {
			return 0
		}
		n := steps[0]
		steps = steps[1:]
		return int(n)
	}
	d, r := made(t)
	b := &book{held: []api.State{{}}}
	for len(steps) > 0 {
		switch next() % 8 {
		case 0:
			d.Crash()
			b.down, b.armed = true, 0
		case 1:
			d.On([]int{next()})
			if b.down {
				b.down, b.armed = false, 0
			}
		case 2:
			n := next()%5 - 1
			d.Arm(n)
			b.armed = max(n, 0)
			if b.down {
				b.armed = 0 // On takes it away
			}
		default:
			s := strewn(b.now(), next)
			before := b.now()
			e := b.write(s)
			writes(t, r, s, e)
			if e != api.OK {
				holds(t, r, before)
			}
		}
		holds(t, r, b.now())
		stands(t, d, b.count, !b.down)
	}
	for i, a := range b.held {
		for _, later := range b.held[i+1:] {
			follows(t, a, later, true)
		}
	}
}

// strewn is a state near to s, mostly.
func strewn(s api.State, next func() int) api.State {
	if s == (api.State{}) {
		s = api.State{Pages: 1 + next()%3, Budget: 1 + next()%3, Epoch: uint32(next() % 3)}
	}
	for range 1 + next()%3 {
		n := next()
		edge := edges()[n%len(edges())]
		switch next() % 14 {
		case 0:
			s.Pages = edge
		case 1:
			s.Budget = edge
		case 2:
			s.Wide = !s.Wide
		case 3:
			s.Boot += uint32(n%5) - 1 // it wraps, now and then
		case 4:
			s.Version += uint64(n%5) - 1
		case 5:
			s.Epoch += uint32(n%5) - 1
		case 6:
			s.Cursor = edge
		case 7:
			s.Busy = !s.Busy
		case 8:
			s.Root[n%32] ^= byte(n)
		case 9:
			s.Mark[n%32] ^= byte(n)
		case 10:
			s.Cursor = n%5 - 1
		case 11:
			s.Boot, s.Version, s.Epoch = s.Boot+uint32(n), s.Version+uint64(n), s.Epoch+uint32(n)
		}
	}
	return s
}

// P11.3 and all others at once, over many steps: the register answers as the
// book does, and what it holds follows all that it held.
func TestRandom(t *testing.T) {
	for seed := range int64(500) {
		r := rand.New(rand.NewSource(seed))
		steps := make([]byte, 400)
		r.Read(steps)
		run(t, steps)
	}
}

// R1: pairs of states of any kind.
func TestAny(t *testing.T) {
	r := rand.New(rand.NewSource(1))
	next := func() int { return r.Intn(256) }
	yes := 0
	for range 200000 {
		a := strewn(api.State{}, next)
		if r.Intn(4) == 0 {
			a = strewn(plain(), next)
		}
		b := strewn(a, next)
		if r.Intn(8) == 0 {
			a = api.State{}
		}
		right(t, a, len(faults(a)) == 0)
		right(t, b, len(faults(b)) == 0)
		want := len(hurdles(a, b)) == 0
		follows(t, a, b, want)
		if want {
			yes++
		}
	}
	if yes < 10000 {
		t.Fatalf("only %d of the pairs follow", yes)
	}
}

func FuzzSteps(f *testing.F) {
	f.Add([]byte{3, 1, 1, 1, 0, 0, 12, 2, 1, 3, 1, 2, 11})
	f.Add([]byte{0, 3, 0, 0, 1, 0, 1, 1, 1, 5, 5, 5})
	f.Fuzz(func(t *testing.T, steps []byte) { run(t, steps[:min(len(steps), 1000)]) })
}
