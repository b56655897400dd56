package nonce

import (
	"math"
	"math/big"
	"math/rand"
	"testing"

	"thimble/api"
	"thimble/count"
)

const last = math.MaxUint64

// words are boots, or epochs, at the ends of their numbers, and amid them.
func words() []uint32 {
	return []uint32{0, 1, 2, 255, 256, math.MaxUint16, 1 << 16, math.MaxInt32, 1 << 31, math.MaxUint32 - 1, math.MaxUint32}
}

// firsts are Seqs at the ends of their numbers, near to them, and where one byte
// more is needed.
func firsts() []uint64 {
	l := []uint64{last, last - 1, last - 2, last - 3, last - 254, last - 255, last - 256, math.MaxInt64 - 1, math.MaxInt64, 1 << 63, 1<<63 + 1}
	for n := range uint64(5) {
		l = append(l, n)
	}
	for i := 8; i < 64; i += 8 {
		l = append(l, 1<<i-2, 1<<i-1, 1<<i, 1<<i+1)
	}
	return l
}

// made asks for what is left, too: a new one has told nothing.
func made(t testing.TB, boot uint32, first uint64) *Source {
	t.Helper()
	s := New(boot, first)
	if s == nil {
		t.Fatalf("New(%d, %d) is nil", boot, first)
	}
	left(t, s, leftOf(first))
	return s
}

// leftOf counts in numbers without an end how many Seqs there are from next on.
func leftOf(next uint64) uint64 {
	all := new(big.Int).Lsh(big.NewInt(1), 64)
	all.Sub(all, new(big.Int).SetUint64(next))
	if !all.IsUint64() {
		return last
	}
	return all.Uint64()
}

// left asks twice, as asking changes nothing.
func left(t testing.TB, s *Source, want uint64) {
	t.Helper()
	for range 2 {
		if got := s.Left(); got != want {
			t.Fatalf("Left() = %d, not %d", got, want)
		}
	}
}

func tells(t testing.TB, s *Source, epoch, boot uint32, seq uint64) {
	t.Helper()
	want := api.Entry{Epoch: epoch, Boot: boot, Seq: seq}
	if x, e := s.Next(epoch); x != want || e != api.OK {
		t.Fatalf("Next(%d) = %v, %d, not %v, 0", epoch, x, e, want)
	}
}

func refuses(t testing.TB, s *Source, want api.Errno) {
	t.Helper()
	for _, epoch := range words() {
		if x, e := s.Next(epoch); x != (api.Entry{}) || e != want {
			t.Fatalf("Next(%d) = %v, %d, not zero, %d", epoch, x, e, want)
		}
		left(t, s, 0)
	}
}

// The chapter's example.
func TestExample(t *testing.T) {
	s := made(t, 3, last-1)
	tells(t, s, 7, 3, last-1)
	tells(t, s, 7, 3, last)
	refuses(t, s, api.ErrExhausted)
}

// P21.1: from first on, one behind the other, each under the epoch that is asked
// for, with what is left behind each; at the end of the numbers it is over.
func TestRun(t *testing.T) {
	const long = 300
	for _, boot := range words() {
		for _, first := range firsts() {
			s := made(t, boot, first)
			for i := range uint64(long) {
				if i > last-first {
					refuses(t, s, api.ErrExhausted)
					break
				}
				tells(t, s, words()[i%uint64(len(words()))], boot, first+i)
				if first+i == last {
					left(t, s, 0)
				} else {
					left(t, s, leftOf(first+i+1))
				}
			}
		}
	}
}

// P21.1: how many there are, word by word: all of them have no number, the next
// lesser count has the same one.
func TestLeft(t *testing.T) {
	s := made(t, 1, 0)
	left(t, s, last) // 2^64
	tells(t, s, 1, 1, 0)
	left(t, s, last) // 2^64 - 1
	tells(t, s, 1, 1, 1)
	left(t, s, last-1)
	left(t, New(1, 1), last)
	left(t, New(1, 2), last-1)
	left(t, New(1, 1<<63), 1<<63)
	left(t, New(1, last-1), 2)
	left(t, New(1, last), 1)
}

// P21.1: the last one is told, whatever the boot and the epoch, and never again.
func TestLast(t *testing.T) {
	for _, boot := range words() {
		for _, epoch := range words() {
			s := made(t, boot, last)
			tells(t, s, epoch, boot, last)
			refuses(t, s, api.ErrExhausted)
			refuses(t, s, api.ErrExhausted)
		}
	}
}

// P21.1: the epoch is as it is asked for, and has no part in the other numbers,
// whether it rises, stays or falls.
func TestEpoch(t *testing.T) {
	s := made(t, 9, 40)
	seq := uint64(40)
	for _, a := range words() {
		for _, b := range words() {
			tells(t, s, a, 9, seq)
			tells(t, s, b, 9, seq+1)
			seq += 2
		}
	}
}

// P21.1: of epoch 0, boot 0 and Seq 0 too: it is told as any other, and is OK.
func TestZeroEntry(t *testing.T) {
	s := made(t, 0, 0)
	tells(t, s, 0, 0, 0)
	tells(t, s, 0, 0, 1)
}

// P21.2: no pair comes twice, of sources of unlike boots that are asked in turns,
// each of them up to its end if that is near; nor does a nonce that is made of one.
func TestOnce(t *testing.T) {
	type pair struct {
		boot uint32
		seq  uint64
	}
	for _, first := range firsts() {
		var sources []*Source
		for _, boot := range words() {
			sources = append(sources, made(t, boot, first))
		}
		pairs, nonces := map[pair]int{}, map[[12]byte]int{}
		for i := range 300 {
			for _, s := range sources {
				x, e := s.Next(uint32(i % 3))
				if e != api.OK {
					continue
				}
				pairs[pair{x.Boot, x.Seq}]++
				nonces[count.Nonce(x)]++
			}
		}
		want := len(words()) * int(min(300, leftOf(first)))
		if len(pairs) != want || len(nonces) != want {
			t.Fatalf("from %d on: %d pairs and %d nonces, not %d", first, len(pairs), len(nonces), want)
		}
		for p, n := range pairs {
			if n != 1 {
				t.Fatalf("%v was told %d times", p, n)
			}
		}
	}
}

// R6: what a source tells hangs on the calls on it alone, not on those on another
// one of the same boot.
func TestApart(t *testing.T) {
	a, b := made(t, 4, last-2), made(t, 4, last-2)
	for i := range uint64(3) {
		tells(t, a, 1, 4, last-2+i)
	}
	refuses(t, a, api.ErrExhausted)
	left(t, b, 3)
	tells(t, b, 2, 4, last-2)
	refuses(t, a, api.ErrExhausted)
	tells(t, New(4, last), 1, 4, last)
	left(t, b, 2)
}

// P21.1, R1: each call of a nil one, over and over.
func TestNil(t *testing.T) {
	var s *Source
	refuses(t, s, api.ErrNone)
	left(t, s, 0)
	refuses(t, s, api.ErrNone)
}

// R1: one that New didn't make is that of boot 0, from 0 on.
func TestZero(t *testing.T) {
	var s Source
	left(t, &s, last)
	tells(t, &s, 5, 0, 0)
	tells(t, &s, 6, 0, 1)
	left(t, &s, last-1)
}

// P21.1 of any numbers, mostly near to the end.
func TestRandom(t *testing.T) {
	g := rand.New(rand.NewSource(1))
	for range 2000 {
		boot, first := g.Uint32(), g.Uint64()
		if g.Intn(4) > 0 {
			first |= last << (g.Intn(8))
		}
		run(t, boot, first, g.Uint32(), 40)
	}
}

// run asks n times, under an epoch that changes, and counts in numbers without an
// end what Seq is to come.
func run(t testing.TB, boot uint32, first uint64, epoch uint32, n int) {
	t.Helper()
	s := made(t, boot, first)
	seq := new(big.Int).SetUint64(first)
	for range n {
		if !seq.IsUint64() {
			refuses(t, s, api.ErrExhausted)
			return
		}
		left(t, s, leftOf(seq.Uint64()))
		tells(t, s, epoch, boot, seq.Uint64())
		seq.Add(seq, big.NewInt(1))
		epoch = epoch*5 + 3
	}
}

func FuzzSource(f *testing.F) {
	f.Add(uint32(3), uint64(last-1), uint32(7), uint8(4))
	f.Add(uint32(0), uint64(0), uint32(0), uint8(3))
	f.Add(uint32(math.MaxUint32), uint64(last), uint32(math.MaxUint32), uint8(2))
	f.Fuzz(func(t *testing.T, boot uint32, first uint64, epoch uint32, n uint8) {
		run(t, boot, first, epoch, int(n))
	})
}
