package ghost

import (
	"bytes"
	"crypto/sha256"
	"encoding/binary"
	"math"
	"math/rand"
	"slices"
	"testing"

	"thimble/api"
)

// book keeps all that it is told, and tells witnesses by the chapter's words,
// going through all of it.
type book struct {
	inputs         []string
	digests        [][32]byte
	sealed, opened []api.Tuple
}

func (b *book) note(input []byte, digest [32]byte) {
	b.inputs = append(b.inputs, string(input))
	b.digests = append(b.digests, digest)
}

func (b *book) clash() (i, j int, ok bool) {
	for j := range b.inputs {
		for i := range j {
			if b.digests[i] == b.digests[j] && b.inputs[i] != b.inputs[j] {
				return i, j, true
			}
		}
	}
	return 0, 0, false
}

func (b *book) forged() (int, bool) {
	for i, o := range b.opened {
		if !slices.ContainsFunc(b.sealed, func(s api.Tuple) bool { return same(s, o) }) {
			return i, true
		}
	}
	return 0, false
}

func (b *book) twice() (i, j int, ok bool) {
	for j := range b.sealed {
		for i := range j {
			if b.sealed[i].Epoch == b.sealed[j].Epoch && b.sealed[i].Nonce == b.sealed[j].Nonce {
				return i, j, true
			}
		}
	}
	return 0, 0, false
}

// holds tells whether a log answers all that the book does.
func (b *book) holds(t testing.TB, l *Log) {
	t.Helper()
	hashed, sealed, opened := l.Count()
	if hashed != len(b.inputs) || sealed != len(b.sealed) || opened != len(b.opened) {
		t.Fatalf("Count: %d, %d, %d, not %d, %d, %d", hashed, sealed, opened, len(b.inputs), len(b.sealed), len(b.opened))
	}
	if i, j, ok := b.clash(); ok {
		clashes(t, l, b.inputs[i], b.inputs[j])
	} else {
		noClash(t, l)
	}
	if i, ok := b.forged(); ok {
		forges(t, l, b.opened[i])
	} else {
		nothingForged(t, l)
	}
	if i, j, ok := b.twice(); ok {
		twiceUsed(t, l, b.sealed[i], b.sealed[j])
	} else {
		noneTwice(t, l)
	}
	var blocks []string
	for _, s := range b.sealed {
		blocks = append(blocks, string(s.Sealed))
	}
	hasBlocks(t, l, blocks...)
}

// same holds two tuples against each other in each field.
func same(a, b api.Tuple) bool {
	return a.Epoch == b.Epoch && a.Nonce == b.Nonce && string(a.Aad) == string(b.Aad) && string(a.Sealed) == string(b.Sealed)
}

// zero tells whether there is nothing in a tuple.
func zero(t api.Tuple) bool { return same(t, api.Tuple{}) }

// tuple makes one out of texts.
func tuple(epoch uint32, nonce byte, aad, sealed string) api.Tuple {
	return api.Tuple{Epoch: epoch, Nonce: [12]byte{nonce}, Aad: []byte(aad), Sealed: []byte(sealed)}
}

func counts(t testing.TB, l *Log, hashed, sealed, opened int) {
	t.Helper()
	if h, s, o := l.Count(); h != hashed || s != sealed || o != opened {
		t.Fatalf("Count: %d, %d, %d, not %d, %d, %d", h, s, o, hashed, sealed, opened)
	}
}

func clashes(t testing.TB, l *Log, a, b string) {
	t.Helper()
	if x, y, ok := l.Clash(); !ok || string(x) != a || string(y) != b {
		t.Fatalf("Clash: %q, %q, %v, not %q, %q", x, y, ok, a, b)
	}
}

func noClash(t testing.TB, l *Log) {
	t.Helper()
	if x, y, ok := l.Clash(); ok || len(x) != 0 || len(y) != 0 {
		t.Fatalf("Clash: %q, %q, %v, where there is none", x, y, ok)
	}
}

func forges(t testing.TB, l *Log, want api.Tuple) {
	t.Helper()
	if x, ok := l.Forged(); !ok || !same(x, want) {
		t.Fatalf("Forged: %v, %v, not %v", x, ok, want)
	}
}

func nothingForged(t testing.TB, l *Log) {
	t.Helper()
	if x, ok := l.Forged(); ok || !zero(x) {
		t.Fatalf("Forged: %v, %v, where there is none", x, ok)
	}
}

func twiceUsed(t testing.TB, l *Log, a, b api.Tuple) {
	t.Helper()
	if x, y, ok := l.Twice(); !ok || !same(x, a) || !same(y, b) {
		t.Fatalf("Twice: %v, %v, %v, not %v, %v", x, y, ok, a, b)
	}
}

func noneTwice(t testing.TB, l *Log) {
	t.Helper()
	if x, y, ok := l.Twice(); ok || !zero(x) || !zero(y) {
		t.Fatalf("Twice: %v, %v, %v, where there is none", x, y, ok)
	}
}

func hasBlocks(t testing.TB, l *Log, want ...string) {
	t.Helper()
	var got []string
	for _, b := range l.Blocks() {
		got = append(got, string(b))
	}
	if !slices.Equal(got, want) {
		t.Fatalf("Blocks: %q, not %q", got, want)
	}
}

// empty holds that there is nothing in a log.
func empty(t testing.TB, l *Log) {
	t.Helper()
	for range 2 {
		counts(t, l, 0, 0, 0)
		noClash(t, l)
		nothingForged(t, l)
		noneTwice(t, l)
		hasBlocks(t, l)
	}
}

// P9.1, P9.2: both examples of the chapter.
func TestExamples(t *testing.T) {
	a, b, d := []byte("a"), []byte("b"), [32]byte{7}
	l := New()
	l.Note(a, d)
	l.Note(b, d)
	clashes(t, l, "a", "b")
	x := tuple(1, 2, "along", "sealed")
	l.Opened(x)
	forges(t, l, x)
	l.Sealed(x)
	nothingForged(t, l)
}

// P9.1: nothing is in a new log, nor in a zero one, and what goes into one goes
// into no other.
func TestNew(t *testing.T) {
	if New() == nil {
		t.Fatal("New answers nil")
	}
	empty(t, New())
	for _, l := range []*Log{New(), {}} {
		l.Hash([]byte("a"))
		l.Note([]byte("b"), sha256.Sum256([]byte("a")))
		l.Opened(tuple(1, 1, "", "o"))
		l.Sealed(tuple(1, 1, "", "s"))
		l.Sealed(tuple(1, 1, "", "t"))
		counts(t, l, 2, 2, 1)
		clashes(t, l, "a", "b")
		forges(t, l, tuple(1, 1, "", "o"))
		twiceUsed(t, l, tuple(1, 1, "", "s"), tuple(1, 1, "", "t"))
		hasBlocks(t, l, "s", "t")
		empty(t, New())
		empty(t, &Log{})
	}
}

// P9.1: each pair, each sealed and each opened one counts, the same ones too.
func TestCount(t *testing.T) {
	l := New()
	for n := range 5 {
		counts(t, l, 2*n, n, n)
		l.Note([]byte("a"), [32]byte{1})
		counts(t, l, 2*n+1, n, n)
		l.Hash([]byte("a"))
		counts(t, l, 2*n+2, n, n)
		l.Sealed(tuple(1, 1, "a", "b"))
		counts(t, l, 2*n+2, n+1, n)
		l.Opened(tuple(1, 1, "a", "b"))
		counts(t, l, 2*n+2, n+1, n+1)
	}
	l.Opened(tuple(2, 1, "a", "b"))
	l.Opened(tuple(2, 1, "a", "b"))
	counts(t, l, 10, 5, 7)
	l.Sealed(tuple(2, 1, "a", "b"))
	l.Note(nil, [32]byte{})
	l.Hash()
	counts(t, l, 12, 6, 7)
}

// P9.1: Hash tells the digest of the parts, one behind the other, wherever they
// are cut.
func TestHash(t *testing.T) {
	l := New()
	var text []byte
	for n := range 200 {
		want := sha256.Sum256(text)
		for _, cut := range []int{0, 1, n / 3, n / 2, n - 1, n} {
			cut = min(max(cut, 0), n)
			if l.Hash(text[:cut], text[cut:]) != want || l.Hash(nil, text[:cut], []byte{}, text[cut:], nil) != want {
				t.Fatalf("%d bytes cut at %d: another digest", n, cut)
			}
		}
		if l.Hash(text) != want {
			t.Fatalf("%d bytes: another digest", n)
		}
		text = append(text, byte(7*n))
	}
	if l.Hash([]byte("a"), []byte("b")) == l.Hash([]byte("b"), []byte("a")) {
		t.Fatal("the order of the parts is lost")
	}
	noClash(t, l)
	counts(t, l, 200*13+2, 0, 0)
}

// P9.1: what Hash notes is what the parts make, with its digest.
func TestHashIsNoted(t *testing.T) {
	for _, parts := range [][]string{{"abc"}, {"a", "bc"}, {"", "a", "", "b", "c", ""}, {"\x00"}, {"", ""}, {""}, {}} {
		var list [][]byte
		var whole string
		for _, p := range parts {
			list = append(list, []byte(p))
			whole += p
		}
		l := New()
		digest := l.Hash(list...)
		l.Note([]byte(whole), digest)
		noClash(t, l)
		l.Note([]byte("another"), digest)
		clashes(t, l, whole, "another")

		l = New()
		l.Note([]byte("another"), sha256.Sum256([]byte(whole)))
		noClash(t, l)
		l.Hash(list...)
		clashes(t, l, "another", whole)
		counts(t, l, 2, 0, 0)
	}
}

// P9.1: no parts, nil ones and ones of no bytes make no bytes.
func TestHashOfNothing(t *testing.T) {
	want := sha256.Sum256(nil)
	l := New()
	for _, parts := range [][][]byte{nil, {}, {nil}, {{}}, {nil, {}, nil}} {
		if got := l.Hash(parts...); got != want {
			t.Fatalf("%d parts of no bytes: %x, not %x", len(parts), got, want)
		}
	}
	if l.Hash() != want {
		t.Fatal("no parts: another digest")
	}
	noClash(t, l)
	counts(t, l, 6, 0, 0)
	l.Note([]byte{0}, want)
	clashes(t, l, "", "\x00")
}

// pair is what Note is told.
type pair struct {
	input  string
	digest byte
}

// P9.2: which inputs Clash tells.
func TestClash(t *testing.T) {
	for _, c := range []struct {
		name  string
		pairs []pair
		a, b  string
		ok    bool
	}{
		{name: "no pair"},
		{name: "one pair", pairs: []pair{{"a", 1}}},
		{name: "the same pair twice", pairs: []pair{{"a", 1}, {"a", 1}}},
		{name: "the same pair thrice", pairs: []pair{{"a", 1}, {"a", 1}, {"a", 1}}},
		{name: "one input, two digests", pairs: []pair{{"a", 1}, {"a", 2}, {"a", 1}}},
		{name: "two inputs, two digests", pairs: []pair{{"a", 1}, {"b", 2}, {"a", 1}, {"b", 2}}},
		{"two inputs", []pair{{"a", 1}, {"b", 1}}, "a", "b", true},
		{"two inputs, the greater one first", []pair{{"b", 1}, {"a", 1}}, "b", "a", true},
		{"three inputs", []pair{{"a", 1}, {"b", 1}, {"c", 1}}, "a", "b", true},
		{"three inputs, the first one twice", []pair{{"a", 1}, {"a", 1}, {"c", 1}, {"b", 1}}, "a", "c", true},
		{"the first input again behind both", []pair{{"a", 1}, {"b", 1}, {"a", 1}, {"b", 1}}, "a", "b", true},
		{"others between both", []pair{{"a", 1}, {"x", 2}, {"y", 3}, {"b", 1}}, "a", "b", true},
		{"two digests, one within the other", []pair{{"a", 1}, {"x", 2}, {"y", 2}, {"b", 1}}, "x", "y", true},
		{"two digests, crossed", []pair{{"x", 2}, {"a", 1}, {"y", 2}, {"b", 1}}, "x", "y", true},
		{"two digests, crossed, the greater input first", []pair{{"a", 1}, {"x", 2}, {"b", 1}, {"y", 2}}, "a", "b", true},
		{"three digests", []pair{{"a", 3}, {"b", 2}, {"c", 1}, {"d", 1}, {"e", 2}, {"f", 3}}, "c", "d", true},
		{"no bytes, and one", []pair{{"", 1}, {"\x00", 1}}, "", "\x00", true},
		{"one byte, and none", []pair{{"\x00", 1}, {"", 1}}, "\x00", "", true},
		{name: "no bytes twice", pairs: []pair{{"", 1}, {"", 1}}},
		{"one begins the other", []pair{{"ab", 1}, {"abc", 1}}, "ab", "abc", true},
		{"the last byte differs", []pair{{"abc", 1}, {"abd", 1}}, "abc", "abd", true},
		{"the first byte differs", []pair{{"abc", 1}, {"bbc", 1}}, "abc", "bbc", true},
		{"the digest of noughts", []pair{{"a", 0}, {"b", 0}}, "a", "b", true},
	} {
		l, b := New(), &book{}
		for _, p := range c.pairs {
			l.Note([]byte(p.input), [32]byte{31: p.digest})
			b.note([]byte(p.input), [32]byte{31: p.digest})
			b.holds(t, l)
		}
		if x, y, ok := l.Clash(); ok != c.ok || string(x) != c.a || string(y) != c.b {
			t.Errorf("%s: %q, %q, %v, not %q, %q, %v", c.name, x, y, ok, c.a, c.b, c.ok)
		}
		counts(t, l, len(c.pairs), 0, 0)
	}
}

// P9.2: digests that differ in one bit anywhere are two.
func TestClashOfAllBits(t *testing.T) {
	l := New()
	l.Note([]byte("a"), [32]byte{})
	for bit := range 256 {
		var d [32]byte
		d[bit/8] = 1 << (bit % 8)
		l.Note([]byte{byte(bit)}, d)
		noClash(t, l)
	}
	var d [32]byte
	d[31] = 0x80
	l.Note([]byte("b"), d)
	clashes(t, l, "\xff", "b")
}

// P9.2: a nil input is one of no bytes.
func TestClashOfNil(t *testing.T) {
	for _, first := range [][]byte{nil, {}} {
		l := New()
		l.Note(first, [32]byte{1})
		l.Note(nil, [32]byte{1})
		l.Note([]byte{}, [32]byte{1})
		noClash(t, l)
		l.Note([]byte("a"), [32]byte{1})
		clashes(t, l, "", "a")
	}
	for _, second := range [][]byte{nil, {}} {
		l := New()
		l.Note([]byte("a"), [32]byte{1})
		l.Note(second, [32]byte{1})
		clashes(t, l, "a", "")
	}
}

// other has, of one tuple, those that differ from it in one thing alone.
func other() (api.Tuple, map[string]api.Tuple) {
	x := api.Tuple{Epoch: 5, Nonce: [12]byte{1, 2, 3, 11: 12}, Aad: []byte("along"), Sealed: []byte("sealed")}
	others := make(map[string]api.Tuple)
	add := func(name string, turn func(*api.Tuple)) {
		y := x
		turn(&y)
		others[name] = y
	}
	add("the epoch's lowest bit", func(y *api.Tuple) { y.Epoch ^= 1 })
	add("the epoch's highest bit", func(y *api.Tuple) { y.Epoch ^= 1 << 31 })
	add("the nonce's first byte", func(y *api.Tuple) { y.Nonce[0] ^= 1 })
	add("the nonce's last byte", func(y *api.Tuple) { y.Nonce[11] ^= 0x80 })
	add("aad's first byte", func(y *api.Tuple) { y.Aad = []byte("blong") })
	add("aad's last byte", func(y *api.Tuple) { y.Aad = []byte("alonf") })
	add("aad is shorter", func(y *api.Tuple) { y.Aad = []byte("alon") })
	add("aad is longer", func(y *api.Tuple) { y.Aad = []byte("along\x00") })
	add("aad is nothing", func(y *api.Tuple) { y.Aad = nil })
	add("sealed's first byte", func(y *api.Tuple) { y.Sealed = []byte("tealed") })
	add("sealed's last byte", func(y *api.Tuple) { y.Sealed = []byte("sealee") })
	add("sealed is shorter", func(y *api.Tuple) { y.Sealed = []byte("seale") })
	add("sealed is longer", func(y *api.Tuple) { y.Sealed = []byte("sealed\x00") })
	add("sealed is nothing", func(y *api.Tuple) { y.Sealed = nil })
	add("a byte of aad is sealed's", func(y *api.Tuple) { y.Aad, y.Sealed = []byte("alon"), []byte("gsealed") })
	add("a byte of sealed is aad's", func(y *api.Tuple) { y.Aad, y.Sealed = []byte("alongs"), []byte("ealed") })
	add("aad and sealed are changed about", func(y *api.Tuple) { y.Aad, y.Sealed = x.Sealed, x.Aad })
	return x, others
}

// P9.2: one that was opened and differs from what was sealed in one thing alone
// was never sealed.
func TestForgedInOneThing(t *testing.T) {
	x, others := other()
	for name, y := range others {
		for _, order := range []string{"sealed first", "opened first"} {
			l := New()
			if order == "sealed first" {
				l.Sealed(x)
			}
			l.Opened(x)
			l.Opened(y)
			l.Sealed(x)
			if got, ok := l.Forged(); !ok || !same(got, y) {
				t.Errorf("%s, %s: %v, %v, not %v", name, order, got, ok, y)
			}
			l.Sealed(y)
			nothingForged(t, l)
		}
	}
	l := New()
	for _, y := range others {
		l.Sealed(y)
	}
	l.Opened(x)
	forges(t, l, x)
	l.Sealed(x)
	nothingForged(t, l)
}

// P9.2: in which order things were sealed and opened turns nothing but which
// one is the first.
func TestForged(t *testing.T) {
	a, b, c := tuple(1, 1, "a", "A"), tuple(1, 2, "b", "B"), tuple(2, 1, "c", "C")
	l := New()
	l.Sealed(a)
	nothingForged(t, l)
	l.Opened(a)
	l.Opened(a)
	nothingForged(t, l)
	l.Opened(b)
	forges(t, l, b)
	l.Opened(c)
	l.Opened(a)
	l.Opened(b)
	forges(t, l, b)
	l.Sealed(c)
	forges(t, l, b)
	l.Opened(c)
	l.Sealed(b)
	nothingForged(t, l)

	l = New()
	for _, x := range []api.Tuple{c, b, a, c, b, a} {
		l.Opened(x)
		forges(t, l, c)
	}
	l.Sealed(c)
	forges(t, l, b)
	l.Sealed(a)
	forges(t, l, b)
	l.Sealed(b)
	nothingForged(t, l)
	counts(t, l, 0, 3, 6)
}

// P9.2: all that were sealed under one epoch and one nonce count.
func TestForgedUnderOneNonce(t *testing.T) {
	l := New()
	for n := range 50 {
		l.Opened(tuple(1, 1, "", string([]byte{byte(n)})))
	}
	for n := range 50 {
		forges(t, l, tuple(1, 1, "", string([]byte{byte(n)})))
		l.Sealed(tuple(1, 1, "", string([]byte{byte(n)})))
	}
	nothingForged(t, l)
	for n := range 50 {
		l.Opened(tuple(1, 1, "", string([]byte{byte(49 - n)})))
		nothingForged(t, l)
	}
	l.Opened(tuple(1, 1, "", "\x32"))
	forges(t, l, tuple(1, 1, "", "\x32"))
}

// P9.2: nil and no bytes are the same, in what is opened and what is sealed.
func TestForgedOfNothing(t *testing.T) {
	for _, s := range []api.Tuple{{}, {Aad: []byte{}}, {Sealed: []byte{}}, {Aad: []byte{}, Sealed: []byte{}}} {
		for _, o := range []api.Tuple{{}, {Aad: []byte{}}, {Sealed: []byte{}}, {Aad: []byte{}, Sealed: []byte{}}} {
			l := New()
			l.Opened(o)
			forges(t, l, api.Tuple{})
			l.Sealed(s)
			nothingForged(t, l)
			l.Opened(o)
			nothingForged(t, l)
			l.Opened(api.Tuple{Aad: []byte{0}})
			forges(t, l, api.Tuple{Aad: []byte{0}})
		}
	}
}

// P9.2: what was hashed and what was opened is nothing that was sealed.
func TestWitnessesAreApart(t *testing.T) {
	l := New()
	x := tuple(1, 1, "a", "b")
	l.Opened(x)
	l.Opened(x)
	noneTwice(t, l)
	hasBlocks(t, l)
	l.Hash(x.Sealed)
	l.Hash(x.Aad)
	forges(t, l, x)
	noClash(t, l)
	l.Note([]byte("x"), sha256.Sum256(x.Sealed))
	clashes(t, l, "b", "x")
	noneTwice(t, l)
	forges(t, l, x)
	l.Sealed(x)
	noneTwice(t, l)
	nothingForged(t, l)
	l.Sealed(x)
	twiceUsed(t, l, x, x)
	clashes(t, l, "b", "x")
}

// P9.2: which ones Twice tells.
func TestTwice(t *testing.T) {
	a, b, c := tuple(1, 1, "a", "A"), tuple(1, 1, "b", "B"), tuple(1, 1, "c", "C")
	x, y := tuple(2, 1, "x", "X"), tuple(2, 1, "y", "Y")
	for _, k := range []struct {
		name   string
		sealed []api.Tuple
		i, j   int
		ok     bool
	}{
		{name: "none"},
		{name: "one", sealed: []api.Tuple{a}},
		{name: "unlike epochs", sealed: []api.Tuple{a, x}},
		{name: "unlike nonces", sealed: []api.Tuple{a, tuple(1, 2, "a", "A")}},
		{"two", []api.Tuple{a, b}, 0, 1, true},
		{"two, the other way about", []api.Tuple{b, a}, 0, 1, true},
		{"three", []api.Tuple{c, a, b}, 0, 1, true},
		{"one sealed twice", []api.Tuple{a, a}, 0, 1, true},
		{"one sealed twice, and another", []api.Tuple{a, a, b}, 0, 1, true},
		{"others between", []api.Tuple{tuple(9, 9, "", ""), a, x, tuple(3, 1, "", ""), b, c}, 1, 4, true},
		{"one pair within the other", []api.Tuple{a, x, y, b}, 1, 2, true},
		{"two pairs, crossed", []api.Tuple{a, x, b, y}, 0, 2, true},
		{"two pairs, crossed, the other way about", []api.Tuple{x, a, y, b}, 0, 2, true},
		{"nothing in them", []api.Tuple{{}, {Aad: []byte{}, Sealed: []byte{}}}, 0, 1, true},
		{"nothing in one", []api.Tuple{{Aad: []byte("a")}, {}, {Sealed: []byte("s")}}, 0, 1, true},
	} {
		l, book := New(), &book{}
		for _, s := range k.sealed {
			l.Sealed(s)
			book.sealed = append(book.sealed, s)
			book.holds(t, l)
		}
		first, second, ok := l.Twice()
		if ok != k.ok || ok && (!same(first, k.sealed[k.i]) || !same(second, k.sealed[k.j])) {
			t.Errorf("%s: %v, %v, %v, not %d and %d, %v", k.name, first, second, ok, k.i, k.j, k.ok)
		}
	}
}

// P9.2: a nonce is another one if any bit of it is; so is an epoch.
func TestTwiceOfAllBits(t *testing.T) {
	l := New()
	l.Sealed(api.Tuple{})
	var last api.Tuple
	for bit := range 96 + 32 {
		var x api.Tuple
		if bit < 96 {
			x.Nonce[bit/8] = 1 << (bit % 8)
		} else {
			x.Epoch = 1 << (bit - 96)
		}
		x.Aad = []byte{byte(bit)}
		l.Sealed(x)
		noneTwice(t, l)
		last = x
	}
	l.Sealed(api.Tuple{Epoch: 1 << 31})
	twiceUsed(t, l, last, api.Tuple{Epoch: 1 << 31})
}

// P9.2: Blocks tells each Sealed, those of no bytes and the same ones too.
func TestBlocks(t *testing.T) {
	l := New()
	var want []string
	for _, s := range []string{"b", "", "a", "a", "b", "\x00"} {
		l.Opened(tuple(1, 1, "o", "opened"))
		l.Hash([]byte("hashed"))
		l.Sealed(tuple(uint32(len(want)/2), 1, "along", s))
		want = append(want, s)
		hasBlocks(t, l, want...)
	}
	l.Sealed(api.Tuple{})
	hasBlocks(t, l, append(want, "")...)
}

// P9.3: a nil log tells digests, and nothing else.
func TestNilLog(t *testing.T) {
	var l *Log
	empty(t, l)
	for range 2 {
		for _, parts := range [][][]byte{nil, {nil}, {[]byte("abc")}, {[]byte("a"), nil, []byte("bc")}} {
			if l.Hash(parts...) != sha256.Sum256(bytes.Join(parts, nil)) {
				t.Fatalf("a nil log's digest of %q", parts)
			}
		}
		l.Note([]byte("a"), [32]byte{1})
		l.Note([]byte("b"), [32]byte{1})
		l.Note(nil, [32]byte{1})
		l.Opened(tuple(1, 1, "a", "b"))
		l.Opened(api.Tuple{})
		l.Sealed(tuple(2, 1, "a", "b"))
		l.Sealed(tuple(2, 1, "a", "c"))
		l.Sealed(api.Tuple{})
		empty(t, l)
	}
	if l.Blocks() != nil {
		t.Fatal("a nil log has blocks")
	}
}

// roomy tells a text's bytes with room behind them, and all of that.
func roomy(text string) (b, whole []byte) {
	whole = append([]byte(text), "room behind it"...)
	return whole[:len(text)], whole
}

// R4: what is handed in, and the room behind it, stays as it was.
func TestHandedInStays(t *testing.T) {
	l := New()
	for _, text := range []string{"", "a", "abc"} {
		b, whole := roomy(text)
		c, second := roomy("second")
		parts := [][]byte{b, c, nil, []byte("hidden")}
		l.Hash(parts[:3]...)
		l.Hash(b)
		l.Note(b, sha256.Sum256(b))
		l.Note(b, [32]byte{1})
		x := api.Tuple{Epoch: 1, Aad: b, Sealed: c}
		l.Opened(x)
		l.Sealed(x)
		l.Opened(x)
		l.Opened(api.Tuple{Epoch: 2, Aad: c, Sealed: b})
		l.Clash()
		l.Forged()
		l.Twice()
		l.Blocks()
		if string(whole) != text+"room behind it" || string(second) != "secondroom behind it" {
			t.Fatalf("%q: %q, %q", text, whole, second)
		}
		if len(parts) != 4 || string(parts[0]) != text || string(parts[1]) != "second" || parts[2] != nil || string(parts[3]) != "hidden" {
			t.Fatalf("%q: the list of parts is %q", text, parts)
		}
	}
}

// R4: what is handed in is kept by its values alone.
func TestHandedInIsNotKept(t *testing.T) {
	l := New()
	turn := func(lists ...[]byte) {
		for _, b := range lists {
			for i := range b {
				b[i] ^= 0xff
			}
		}
	}
	abc, d := []byte("abc"), []byte("d")
	digest := l.Hash(abc)
	l.Note(d, [32]byte{1})
	turn(abc, d)
	l.Note(abc, [32]byte{2})
	l.Note([]byte("d"), [32]byte{1})
	l.Hash([]byte("abc"))
	noClash(t, l)
	e := []byte("e")
	l.Note(e, digest)
	turn(e)
	clashes(t, l, "abc", "e")

	s, o := tuple(1, 1, "along", "sealed"), tuple(1, 2, "along", "opened")
	l.Sealed(s)
	l.Opened(o)
	turn(s.Aad, s.Sealed, o.Aad, o.Sealed)
	l.Opened(tuple(1, 1, "along", "sealed"))
	forges(t, l, tuple(1, 2, "along", "opened"))
	hasBlocks(t, l, "sealed")
	again := tuple(1, 1, "again", "AGAIN")
	l.Sealed(again)
	turn(again.Aad, again.Sealed)
	twiceUsed(t, l, tuple(1, 1, "along", "sealed"), tuple(1, 1, "again", "AGAIN"))
	l.Sealed(tuple(1, 2, "along", "opened"))
	nothingForged(t, l)
	hasBlocks(t, l, "sealed", "AGAIN", "opened")
}

// TestPartsAreNotKept: one buffer that is filled anew for each part list.
func TestPartsAreNotKept(t *testing.T) {
	l, b := New(), make([]byte, 8)
	for n := range 100 {
		binary.BigEndian.PutUint64(b, uint64(n))
		l.Hash(b[:4], b[4:])
	}
	noClash(t, l)
	binary.BigEndian.PutUint64(b, 42)
	l.Note([]byte("x"), sha256.Sum256(b))
	clashes(t, l, string(b), "x")
}

// full has a witness of each kind.
func full() *Log {
	l := New()
	l.Note([]byte("a"), [32]byte{1})
	l.Note([]byte("b"), [32]byte{1})
	l.Sealed(tuple(1, 1, "along", "sealed"))
	l.Sealed(tuple(1, 1, "along too", "sealed too"))
	l.Opened(tuple(3, 1, "forged", "FORGED"))
	return l
}

// fill writes into all of what was handed back, and into the room behind it.
func fill(lists ...[]byte) {
	for _, b := range lists {
		b = b[:cap(b)]
		for i := range b {
			b[i] = 0xee
		}
	}
}

// R4: who writes into what is handed back turns nothing in the log.
func TestHandedBackIsNew(t *testing.T) {
	l := full()
	for range 3 {
		clashes(t, l, "a", "b")
		forges(t, l, tuple(3, 1, "forged", "FORGED"))
		twiceUsed(t, l, tuple(1, 1, "along", "sealed"), tuple(1, 1, "along too", "sealed too"))
		hasBlocks(t, l, "sealed", "sealed too")
		a, b, _ := l.Clash()
		fill(a, b)
		f, _ := l.Forged()
		fill(f.Aad, f.Sealed)
		x, y, _ := l.Twice()
		fill(x.Aad, x.Sealed, y.Aad, y.Sealed)
		blocks := l.Blocks()
		fill(blocks...)
		blocks = blocks[:cap(blocks)]
		clear(blocks)
	}
	l.Opened(tuple(1, 1, "along", "sealed"))
	l.Opened(tuple(1, 1, "along too", "sealed too"))
	l.Sealed(tuple(3, 1, "forged", "FORGED"))
	nothingForged(t, l)
	hasBlocks(t, l, "sealed", "sealed too", "FORGED")
	l.Note([]byte("a"), [32]byte{1})
	clashes(t, l, "a", "b")
}

// R4: no two lists of one answer share memory, and no two answers do.
func TestAnswersShareNothing(t *testing.T) {
	l := full()
	x := tuple(1, 1, "same", "same")
	same := New()
	same.Sealed(x)
	same.Sealed(x)
	same.Opened(tuple(2, 2, "same", "same"))
	for _, l := range []*Log{l, same} {
		var lists [][]byte
		for range 2 {
			a, b, _ := l.Clash()
			f, _ := l.Forged()
			x, y, _ := l.Twice()
			lists = append(lists, a, b, f.Aad, f.Sealed, x.Aad, x.Sealed, y.Aad, y.Sealed)
			lists = append(lists, l.Blocks()...)
		}
		for i, b := range lists {
			var before []string
			for _, c := range lists {
				before = append(before, string(c[:cap(c)]))
			}
			fill(b)
			for j, c := range lists {
				if j != i && string(c[:cap(c)]) != before[j] {
					t.Fatalf("lists %d and %d share memory", i, j)
				}
			}
		}
	}
}

// R6: asking changes nothing, however often and in which order.
func TestAskingChangesNothing(t *testing.T) {
	l := full()
	for range 4 {
		noneLess := func() {
			counts(t, l, 2, 2, 1)
			hasBlocks(t, l, "sealed", "sealed too")
			forges(t, l, tuple(3, 1, "forged", "FORGED"))
			clashes(t, l, "a", "b")
			twiceUsed(t, l, tuple(1, 1, "along", "sealed"), tuple(1, 1, "along too", "sealed too"))
		}
		noneLess()
		noneLess()
	}
}

// R1: least and greatest numbers, and long bytes.
func TestAnyArguments(t *testing.T) {
	long := bytes.Repeat([]byte{0xff}, 1<<20)
	longer := append(slices.Clone(long), 0)
	full := [32]byte(bytes.Repeat([]byte{0xff}, 32))
	l := New()
	if l.Hash(long, nil, long) != sha256.Sum256(append(slices.Clone(long), long...)) {
		t.Fatal("the digest of two long parts")
	}
	l.Note(long, full)
	l.Note(longer, full)
	clashes(t, l, string(long), string(longer))
	nonce := [12]byte(bytes.Repeat([]byte{0xff}, 12))
	x := api.Tuple{Epoch: math.MaxUint32, Nonce: nonce, Aad: long, Sealed: longer}
	y := api.Tuple{Epoch: math.MaxUint32, Nonce: nonce, Aad: longer, Sealed: long}
	l.Opened(x)
	l.Opened(y)
	l.Sealed(x)
	forges(t, l, y)
	l.Sealed(y)
	nothingForged(t, l)
	twiceUsed(t, l, x, y)
	hasBlocks(t, l, string(longer), string(long))
	many := make([][]byte, 1<<16)
	for i := range many {
		many[i] = []byte{byte(i)}
	}
	if l.Hash(many...) != sha256.Sum256(bytes.Join(many, nil)) {
		t.Fatal("the digest of many parts")
	}
	counts(t, l, 4, 2, 2)
}

// deeds does to a log, and tells a book, what a row of bytes says, and holds
// them against each other behind each deed. Few values come, so that many meet.
func deeds(t testing.TB, row []byte) {
	t.Helper()
	texts := [][]byte{nil, {}, {0}, {0, 0}, {1}, []byte("a"), []byte("ab"), []byte("b")}
	l, b := New(), &book{}
	for ; len(row) >= 4; row = row[4:] {
		x := api.Tuple{Epoch: uint32(row[1] % 3), Nonce: [12]byte{11: row[1] / 3 % 5}, Aad: texts[row[2]%8], Sealed: texts[row[3]%8]}
		switch row[0] % 8 {
		case 0:
			whole := append(slices.Clone(x.Aad), x.Sealed...)
			digest := l.Hash(x.Aad, x.Sealed)
			if digest != sha256.Sum256(whole) {
				t.Fatalf("Hash of %q, %q: %x", x.Aad, x.Sealed, digest)
			}
			b.note(whole, digest)
		case 1:
			l.Note(x.Aad, [32]byte{row[1] % 16})
			b.note(x.Aad, [32]byte{row[1] % 16})
		case 2:
			l.Note(x.Aad, sha256.Sum256(x.Sealed))
			b.note(x.Aad, sha256.Sum256(x.Sealed))
		case 3, 4:
			l.Sealed(x)
			b.sealed = append(b.sealed, x)
		default:
			l.Opened(x)
			b.opened = append(b.opened, x)
		}
		b.holds(t, l)
	}
}

// P9.1, P9.2: whatever is told, and in whichever order, against the chapter's
// words.
func TestAgainstTheBook(t *testing.T) {
	r := rand.New(rand.NewSource(9))
	for range 3000 {
		row := make([]byte, 4*r.Intn(40))
		r.Read(row)
		deeds(t, row)
	}
}

func FuzzLog(f *testing.F) {
	f.Add([]byte{0, 0, 5, 7, 2, 0, 6, 5, 3, 1, 1, 1, 5, 1, 1, 1, 5, 1, 1, 2, 3, 1, 2, 2})
	f.Add([]byte{1, 1, 1, 1, 1, 1, 2, 2})
	f.Fuzz(func(t *testing.T, row []byte) {
		deeds(t, row[:min(len(row), 400)])
	})
}

// BenchmarkJudge: a long row of honest pages, and a judge behind each of them.
func BenchmarkJudge(b *testing.B) {
	page := make([]byte, api.Block)
	for b.Loop() {
		l := New()
		for n := range 1000 {
			binary.BigEndian.PutUint64(page, uint64(n))
			x := api.Tuple{Epoch: 1, Aad: page[:4], Sealed: page}
			binary.BigEndian.PutUint64(x.Nonce[4:], uint64(n))
			l.Hash(page)
			l.Sealed(x)
			l.Opened(x)
			l.Clash()
			l.Forged()
			l.Twice()
		}
	}
}
