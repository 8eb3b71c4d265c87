package rng

import (
	"math"
	"math/big"
	"testing"
)

const (
	least    = math.MinInt
	greatest = math.MaxInt
	all      = math.MaxUint64
)

// numbers are numbers of 64 bits with one bit, with a run of bits, about the borders, and a row of others.
func numbers() []uint64 {
	l := []uint64{0, 1, 2, 3, all - 2, all - 1, all, 0x0123456789abcdef, 0xfedcba9876543210, 0x5555555555555555, 0xaaaaaaaaaaaaaaaa}
	for i := range 64 {
		l = append(l, 1<<i, 1<<i-1, 1<<i+1, ^uint64(1<<i), all<<i, all>>i)
	}
	x := uint64(88172645463325252)
	for range 2000 {
		x ^= x << 13
		x ^= x >> 7
		x ^= x << 17
		l = append(l, x)
	}
	return l
}

// slowMix is P2.1's rule, with halving and numbers that do not wrap round.
func slowMix(x uint64) uint64 {
	x = slowTimes(slowTurn(x, 30), "bf58476d1ce4e5b9")
	x = slowTimes(slowTurn(x, 27), "94d049bb133111eb")
	return slowTurn(x, 31)
}

func slowTurn(x uint64, times int) uint64 {
	half := x
	for range times {
		half /= 2
	}
	return x ^ half
}

func slowTimes(x uint64, by string) uint64 {
	y, _ := new(big.Int).SetString(by, 16)
	y.Mul(y, new(big.Int).SetUint64(x))
	return y.Mod(y, new(big.Int).Lsh(big.NewInt(1), 64)).Uint64()
}

// P2.1: the examples, the number 0 and the greatest, and what the rule makes of others.
func TestMix(t *testing.T) {
	for _, x := range [][2]uint64{
		{0, 0},
		{1, 0x5692161d100b05e5},
		{2, 0xdbd238973a2b148a},
		{0x9e3779b97f4a7c15, 0xe220a8397b1dcdaf},
		{0x00000000ffffffff, 0x8b32c408e8c2c97c},
		{0x0000000100000000, 0xd820b7e910b0f93f},
		{0x0123456789abcdef, 0xb2c058e4ebb5112c},
		{0x7fffffffffffffff, 0x5a682afe7965debd},
		{0x8000000000000000, 0x25c26ea579cea98a},
		{0xfffffffffffffffe, 0xda26e52fa3730902},
		{0xffffffffffffffff, 0xb4d055fcf2cbbd7b},
	} {
		if got := Mix(x[0]); got != x[1] {
			t.Errorf("Mix(%x) is %x, not %x", x[0], got, x[1])
		}
		if got := Unmix(x[1]); got != x[0] {
			t.Errorf("Unmix(%x) is %x, not %x", x[1], got, x[0])
		}
	}
	for _, x := range numbers() {
		if got, want := Mix(x), slowMix(x); got != want {
			t.Errorf("Mix(%x) is %x, not %x", x, got, want)
		}
	}
}

// P2.1, P2.5: Unmix is the number of which Mix makes x, and the other way round.
func TestUnmixUndoesMix(t *testing.T) {
	for _, x := range numbers() {
		if got := Unmix(Mix(x)); got != x {
			t.Errorf("Unmix(Mix(%x)) is %x", x, got)
		}
		if got := Mix(Unmix(x)); got != x {
			t.Errorf("Mix(Unmix(%x)) is %x", x, got)
		}
		if got := slowMix(Unmix(x)); got != x {
			t.Errorf("Mix, by the rule, of Unmix(%x) is %x", x, got)
		}
	}
}

// place is what a hash and a stream are of.
type place struct {
	seed           uint64
	stage, x, y, z int
}

func (p place) hash() uint64 { return Hash(p.seed, p.stage, p.x, p.y, p.z) }

func (p place) stream() *Stream { return New(p.seed, p.stage, p.x, p.y, p.z) }

// known are places, their hashes, and the first numbers of their streams, worked out apart from this program.
func known() []struct {
	p     place
	hash  uint64
	first [3]uint64
} {
	return []struct {
		p     place
		hash  uint64
		first [3]uint64
	}{
		{place{0, 0, 0, 0, 0}, 0x2130748aaac80268, [3]uint64{0x78ae5a9a6b5fd45e, 0xb9895a2b68592df1, 0x4d936ece81fe4f66}},
		{place{1, 0, 0, 0, 0}, 0x5b9ff124ad660768, [3]uint64{0x2d48c5c4f2db6390, 0x487fa694b0234da5, 0x214794d5b437df5b}},
		{place{0, 1, 0, 0, 0}, 0xe28195ddd9ee4956, [3]uint64{0x348c3d1af8bec8e5, 0xe848b57330008cfb, 0xe9752a8ff382eb96}},
		{place{0, 0, 1, 0, 0}, 0xd1c0270687984b37, [3]uint64{0xf9ac6e337c2f0f1e, 0xcff0e06f1187f3de, 0x092adb0d571525d6}},
		{place{0, 0, 0, 1, 0}, 0xd9eef7f073d37c42, [3]uint64{0x3ceea767acc0e20d, 0x538ae4b8c55f2fa1, 0x7eb8ecb5980095d3}},
		{place{0, 0, 0, 0, 1}, 0x2a4f111b3be57715, [3]uint64{0x2d6527ba78af243f, 0x3eb2f1225a44c4c3, 0x49da83c534d59952}},
		{place{1, 2, 3, 4, 5}, 0x878a163280f3d5e7, [3]uint64{0x9663779612aeac79, 0xa21122449ba939bd, 0x7ec47d862d6a8a7a}},
		{place{1, 2, 3, 5, 4}, 0x84d07671dafdb6bb, [3]uint64{0x0d0ca6f711e1f5ff, 0x6a06585b0b9a7846, 0x8305a09cea5a1c85}},
		{place{1, 3, 2, 4, 5}, 0xce9062d56f51a3fe, [3]uint64{0xc97c2ac4e0319423, 0x7769273d136be131, 0xd0032f67dd5c19d0}},
		{place{7, -1, -2, -3, -4}, 0xfbfad65659befb5c, [3]uint64{0x761d2cfe034a4c34, 0xdbed460e796e7037, 0x2b1a9a8c505a0a09}},
		{place{42, 0, -1, 0, 0}, 0xe5601f81967dc191, [3]uint64{0x80d9a7265b1021a7, 0x2c28f38a4fd9974f, 0xe775bbac03da6fb4}},
		{place{all, 5, -1048576, 127, 1048576}, 0x0b3956adefb0677e, [3]uint64{0xf1d4ab73e753ab96, 0x5672caa1758a3cfd, 0xe4c642392df5917d}},
		{place{42, 0, 0, 0, least}, 0x72956857c16343a5, [3]uint64{0xc47fff0c4d3dca05, 0x1b094c0a55bdeb7d, 0x5bf8df9f8c94871d}},
		{place{0, least, least, least, least}, 0x8d38770a74c89d3c, [3]uint64{0x7c02d61de9b47482, 0x8b29c066640ac7d9, 0x44b3edfab1aa9ec4}},
		{place{all, greatest, greatest, greatest, greatest}, 0x856f34a7713aca63, [3]uint64{0x8cb9d1345cb2935d, 0x99a9b1250fe4da59, 0x464e2b6e00604c40}},
	}
}

// P2.2: what places make, with numbers below 0, the least and the greatest.
func TestHash(t *testing.T) {
	for _, x := range known() {
		if got := x.p.hash(); got != x.hash {
			t.Errorf("Hash of %v is %x, not %x", x.p, got, x.hash)
		}
	}
}

// P2.2: one number after the other, as the rule has it; one that is below 0 is 2^64 more.
func TestHashIsAChain(t *testing.T) {
	l := []int{least, least + 1, -1048577, -16, -1, 0, 1, 15, 1048576, greatest - 1, greatest}
	two64 := new(big.Int).Lsh(big.NewInt(1), 64)
	g, _ := new(big.Int).SetString("9e3779b97f4a7c15", 16)
	link := func(h uint64, n int) uint64 {
		v := big.NewInt(int64(n))
		if n < 0 {
			v.Add(v, two64)
		}
		v.Xor(v, new(big.Int).SetUint64(h))
		v.Add(v, g)
		return slowMix(v.Mod(v, two64).Uint64())
	}
	for i, seed := range numbers()[:60] {
		p := place{seed, l[i%11], l[i*3%11], l[i*5%11], l[i*7%11]}
		want := link(link(link(link(slowMix(p.seed), p.stage), p.x), p.y), p.z)
		if got := p.hash(); got != want {
			t.Errorf("Hash of %v is %x, not %x", p, got, want)
		}
	}
}

// P2.3: the example, an n of 1, the greatest that there is and the one behind it, 0 and below 0.
func TestBelow(t *testing.T) {
	for _, x := range []struct {
		h       uint64
		n, want int
	}{
		{0x8000000000000000, 10, 5},
		{0, 10, 0},
		{all, 10, 9},
		{0x00000000ffffffff, 10, 0},
		{0x00000000ffffffff, math.MaxInt32, 0},
		{0x1999999900000000, 10, 0},
		{0x19999999ffffffff, 10, 0},
		{0x1999999a00000000, 10, 1},
		{0x7fffffffffffffff, 2, 0},
		{0x8000000000000000, 2, 1},
		{0x5555555500000000, 3, 0},
		{0x5555555600000000, 3, 1},
		{0, 1, 0},
		{0x8000000000000000, 1, 0},
		{all, 1, 0},
		{0, math.MaxInt32, 0},
		{0x0000000200000000, math.MaxInt32, 0},
		{0x0000000300000000, math.MaxInt32, 1},
		{0x8000000000000000, math.MaxInt32, 1<<30 - 1},
		{all, math.MaxInt32, math.MaxInt32 - 1},
		{all, math.MaxInt32 - 1, math.MaxInt32 - 2},
		{all, 1 << 30, 1<<30 - 1},
		{0x8000000000000000, 1 << 20, 1 << 19},
	} {
		if got := Below(x.h, x.n); got != x.want {
			t.Errorf("Below(%x, %d) is %d, not %d", x.h, x.n, got, x.want)
		}
	}
}

// P2.3: of an n that may not be there is 0.
func TestBelowOfOtherNumbers(t *testing.T) {
	for _, n := range []int{0, -1, -2, -10, math.MinInt32, least + 1, least, 1 << 31, 1<<31 + 1, 1<<32 - 1, 1 << 32, 1<<32 + 10, 1 << 40, 1 << 62, greatest - 1, greatest} {
		for _, h := range numbers() {
			if got := Below(h, n); got != 0 {
				t.Fatalf("Below(%x, %d) is %d, not 0", h, n, got)
			}
		}
	}
}

// P2.3, P2.5: from 0 on, below n, and what the rule makes in numbers that do not wrap round.
func TestBelowIsBelow(t *testing.T) {
	for _, n := range []int{1, 2, 3, 7, 10, 16, 100, 255, 256, 1000, 1 << 16, 1<<20 + 1, 1 << 30, math.MaxInt32 - 1, math.MaxInt32} {
		for _, h := range numbers() {
			got := Below(h, n)
			if got < 0 || got >= n {
				t.Fatalf("Below(%x, %d) is %d", h, n, got)
			}
			want := new(big.Int).SetUint64(h)
			want.Rsh(want, 32).Mul(want, big.NewInt(int64(n))).Rsh(want, 32)
			if want.Cmp(big.NewInt(int64(got))) != 0 {
				t.Fatalf("Below(%x, %d) is %d, not %s", h, n, got, want)
			}
		}
	}
}

// P2.4: the first numbers of streams.
func TestNext(t *testing.T) {
	for _, x := range known() {
		s := x.p.stream()
		for i, want := range x.first {
			if got := s.Next(); got != want {
				t.Errorf("number %d of %v is %x, not %x", i, x.p, got, want)
			}
		}
	}
}

// P2.4: the count goes on by one, from 1 at the first number.
func TestNextCounts(t *testing.T) {
	p := place{9, 4, -100, 0, 77}
	s, key := p.stream(), p.hash()
	for i := range uint64(5000) {
		want := slowMix(key + slowTimes(i+1, "9e3779b97f4a7c15"))
		if got := s.Next(); got != want {
			t.Fatalf("number %d is %x, not %x", i, got, want)
		}
	}
}

// P2.4: the stream whose key is 1234567 has the numbers that are told of this way of counting.
func TestNextOfAKnownKey(t *testing.T) {
	h := uint64(1234567)
	for _, n := range []int{5, 4, 3, 2} {
		h = Unmix(h) - 0x9e3779b97f4a7c15 ^ uint64(n)
	}
	s := New(Unmix(h), 2, 3, 4, 5)
	for i, want := range []uint64{6457827717110365317, 3203168211198807973, 9817491932198370423, 4593380528125082431, 16408922859458223821} {
		if got := s.Next(); got != want {
			t.Errorf("number %d is %d, not %d", i, got, want)
		}
	}
}

// P2.4: asked by Next and by Below in between, one number is taken each time, also for an n that may not be.
func TestStreamBelow(t *testing.T) {
	ns := []int{10, 1, 0, 7, -1, math.MaxInt32, 1 << 31, 100, least, greatest, 2}
	for _, x := range known() {
		asked, plain := x.p.stream(), x.p.stream()
		for i := range 200 {
			n := ns[i%len(ns)]
			if got, want := asked.Below(n), Below(plain.Next(), n); got != want {
				t.Fatalf("%v: Below(%d) is %d, not %d", x.p, n, got, want)
			}
			if i%3 == 0 {
				if got, want := asked.Next(), plain.Next(); got != want {
					t.Fatalf("%v: behind Below(%d), Next is %x, not %x", x.p, n, got, want)
				}
			}
		}
	}
}

// P2.5: two streams of one place have the same numbers, whoever is asked first; a third one between them changes nothing.
func TestStreamsOfOnePlace(t *testing.T) {
	p := place{3, 4, -5, 6, -7}
	a, other, b := p.stream(), place{3, 4, -5, 6, -8}.stream(), p.stream()
	var ahead []uint64
	for i := range 300 {
		ahead = append(ahead, a.Next())
		if i%2 == 0 {
			other.Below(i)
			p.stream().Next()
			continue
		}
		for _, want := range ahead {
			if got := b.Next(); got != want {
				t.Fatalf("about number %d: %x, not %x", i, got, want)
			}
		}
		ahead = nil
	}
}

// P2.4: streams of several places stand in an array, each by itself; one that is copied goes on by itself; a stream's numbers are a method value.
func TestStreamsInAnArray(t *testing.T) {
	var row [3]Stream
	for i := range row {
		row[i] = *New(11, 1, i, 0, -i)
	}
	kept := row
	for range 10 {
		for i := range row {
			row[i].Next()
		}
	}
	for i := range kept {
		next, want := kept[i].Next, New(11, 1, i, 0, -i)
		for range 10 {
			if got, w := next(), want.Next(); got != w {
				t.Fatalf("stream %d: %x, not %x", i, got, w)
			}
		}
	}
	if kept != row {
		t.Errorf("after ten numbers each: %v, not %v", kept, row)
	}
}

// R1: no stream, and one that New has not made, are asked without harm.
func TestNoStream(t *testing.T) {
	var none *Stream
	if got := none.Next(); got != 0 {
		t.Errorf("Next of none is %x", got)
	}
	if got := none.Below(10); got != 0 {
		t.Errorf("Below of none is %d", got)
	}
	var empty Stream
	if got := empty.Next(); got != 0xe220a8397b1dcdaf {
		t.Errorf("Next of the stream with key 0 is %x", got)
	}
}
