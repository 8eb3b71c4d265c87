package noise

import (
	"math"
	"math/big"
	"testing"

	"outcrop/rng"
)

const (
	least    = math.MinInt
	greatest = math.MaxInt
	all      = math.MaxUint64
)

// ints are coordinates and stages: about 0, about the sides of corners, about the world's border, and about the least and the greatest.
func ints() []int {
	l := []int{0, 3, 100, -100, 123456, -654321}
	for _, n := range []int{1, 2, 16, 128, 1 << 20, 1 << 40} {
		l = append(l, n-1, n, n+1, -n-1, -n, -n+1)
	}
	for n := range 3 {
		l = append(l, least+n, greatest-n)
	}
	return append(l, least+1<<20, least+1<<20-1, greatest-1<<20, greatest-1<<20+1)
}

// wrongs are numbers that are neither a shift nor a number of octaves.
func wrongs() []int {
	return []int{-1, -2, -20, -64, 21, 22, 31, 32, 63, 64, 65, 128, 1 << 32, least, least + 1, least + 8, greatest, greatest - 1}
}

// P3.1: what places have, worked out apart from this program; with numbers below 0, the least and the greatest.
func TestLattice(t *testing.T) {
	for _, x := range []struct {
		seed              uint64
		stage, x, z, want int
	}{
		{0, 0, 0, 0, 8496},
		{1, 0, 0, 0, 23455},
		{0, 1, 0, 0, 57985},
		{0, 0, 1, 0, 53696},
		{0, 0, 0, 1, 10831},
		{7, 1, 3, -3, 60619},
		{7, 1, -3, 3, 41964},
		{7, 1, 3, 3, 35919},
		{all, -1, -1, -1, 40837},
		{7, least, 0, 0, 28577},
		{7, greatest, 0, 0, 46393},
		{7, 1, least, greatest, 35612},
		{7, 1, greatest, least, 26928},
		{7, 1, least, least, 15567},
		{7, 1, greatest, greatest, 50992},
	} {
		if got := Lattice(x.seed, x.stage, x.x, x.z); got != x.want {
			t.Errorf("Lattice(%d, %d, %d, %d) is %d, not %d", x.seed, x.stage, x.x, x.z, got, x.want)
		}
	}
}

// P3.1, P3.5: the highest 16 bits of the hash of x, 0 and z; from 0 to 65535.
func TestLatticeIsTheTopOfTheHash(t *testing.T) {
	for i, x := range ints() {
		for j, z := range ints() {
			seed, stage := uint64(i*j), ints()[(i+j)%len(ints())]
			got := Lattice(seed, stage, x, z)
			if got < 0 || got > 65535 {
				t.Fatalf("Lattice(%d, %d, %d, %d) is %d", seed, stage, x, z, got)
			}
			if want := rng.Hash(seed, stage, x, 0, z) / (1 << 48); uint64(got) != want {
				t.Fatalf("Lattice(%d, %d, %d, %d) is %d, not %d", seed, stage, x, z, got, want)
			}
		}
	}
}

// P3.2: the examples, what lies about 0 and 65536, and what is far beyond both.
func TestFade(t *testing.T) {
	for _, x := range [][2]int{
		{least, 0},
		{-65536, 0},
		{-5, 0},
		{-1, 0},
		{0, 0},
		{1, 0},
		{2, 0},
		{147, 0},
		{148, 1},
		{149, 1},
		{255, 2},
		{16384, 10240},
		{32767, 32766},
		{32768, 32768},
		{32769, 32769},
		{49152, 55296},
		{65387, 65534},
		{65388, 65534},
		{65389, 65535},
		{65535, 65535},
		{65536, 65536},
		{65537, 65536},
		{70000, 65536},
		{131072, 65536},
		{4294967296, 65536},
		{greatest, 65536},
	} {
		if got := Fade(x[0]); got != x[1] {
			t.Errorf("Fade(%d) is %d, not %d", x[0], got, x[1])
		}
	}
}

// slowFade is P3.2's rule in numbers that do not wrap round.
func slowFade(t *big.Int) *big.Int {
	if t.Sign() < 0 {
		t = big.NewInt(0)
	}
	if t.Cmp(big.NewInt(65536)) > 0 {
		t = big.NewInt(65536)
	}
	v := new(big.Int).Sub(big.NewInt(196608), new(big.Int).Add(t, t))
	v.Mul(v, t).Mul(v, t)
	return v.Div(v, big.NewInt(1<<32))
}

// P3.2: every fraction, as the rule has it; none is below the one ahead of it.
func TestFadeOfAll(t *testing.T) {
	ahead := 0
	for n := -70; n < 65536+70; n++ {
		got := Fade(n)
		if want := slowFade(big.NewInt(int64(n))); want.Cmp(big.NewInt(int64(got))) != 0 {
			t.Fatalf("Fade(%d) is %d, not %s", n, got, want)
		}
		if got < ahead || got > 65536 {
			t.Fatalf("Fade(%d) is %d, behind %d", n, got, ahead)
		}
		ahead = got
	}
}

// P3.3: heights of places, worked out apart from this program: at corners, between them and halfway, below 0, with the shifts 0 and 20, and at the least and the greatest int, where the corner behind the greatest one is the least one.
func TestFlat(t *testing.T) {
	for _, x := range []struct {
		seed                     uint64
		stage, x, z, shift, want int
	}{
		{7, 1, 0, 0, 0, 33477},
		{7, 1, 5, -9, 0, 24642},
		{7, 1, 5, -9, 1, 30784},
		{7, 1, 5, -9, 4, 21986},
		{7, 1, -5, 9, 4, 20081},
		{7, 1, -16, -32, 4, 60820},
		{7, 1, 15, 15, 4, 48501},
		{7, 1, -1, -1, 4, 33077},
		{7, 1, 8, 8, 4, 38659},
		{7, 1, -8, -8, 4, 27031},
		{7, 1, 123456, -654321, 12, 56496},
		{7, 1, 123456, -654321, 19, 8554},
		{7, 1, 123456, -654321, 20, 14730},
		{7, 1, -1, 1048575, 20, 13080},
		{all, -1, 1048576, -1048576, 20, 34894},
		{7, 1, greatest, greatest, 0, 50992},
		{7, 1, least, least, 0, 15567},
		{7, 1, greatest, least, 1, 24102},
		{7, 1, least, greatest, 1, 33881},
		{7, 1, greatest, greatest, 4, 58537},
		{7, 1, least, least, 4, 31041},
		{7, 1, greatest, least, 20, 28693},
		{7, 1, least, greatest, 20, 50420},
		{7, least, 100, 200, 6, 46507},
		{7, greatest, 100, 200, 6, 59853},
	} {
		if got := Flat(x.seed, x.stage, x.x, x.z, x.shift); got != x.want {
			t.Errorf("Flat(%d, %d, %d, %d, %d) is %d, not %d", x.seed, x.stage, x.x, x.z, x.shift, got, x.want)
		}
	}
}

// slowSplit is the corner of a coordinate and the fraction behind it. math/big's Div and Mod round down for a divisor above 0.
func slowSplit(v, shift int) (*big.Int, *big.Int) {
	apart := new(big.Int).Lsh(big.NewInt(1), uint(shift))
	c, rest := new(big.Int).DivMod(big.NewInt(int64(v)), apart, new(big.Int))
	rest.Mul(rest, big.NewInt(65536))
	return c, slowFade(rest.Div(rest, apart))
}

// slowBetween is what there is at t between a and b.
func slowBetween(a, b, t *big.Int) *big.Int {
	v := new(big.Int).Sub(b, a)
	v.Mul(v, t).Div(v, big.NewInt(65536))
	return v.Add(v, a)
}

// wrapped is the lowest 64 bits of a number and one more, or none more.
func wrapped(n *big.Int, more int64) int {
	two64 := new(big.Int).Lsh(big.NewInt(1), 64)
	v := new(big.Int).Add(n, big.NewInt(more))
	return int(v.Mod(v, two64).Uint64())
}

// slowFlat is P3.3's rule in numbers that do not wrap round, and its four corners.
func slowFlat(seed uint64, stage, x, z, shift int) (int, [4]int) {
	cx, tx := slowSplit(x, shift)
	cz, tz := slowSplit(z, shift)
	at := func(dx, dz int64) *big.Int {
		return big.NewInt(int64(Lattice(seed, stage, wrapped(cx, dx), wrapped(cz, dz))))
	}
	a, b, c, d := at(0, 0), at(1, 0), at(0, 1), at(1, 1)
	v := slowBetween(slowBetween(a, b, tx), slowBetween(c, d, tx), tz)
	return int(v.Int64()), [4]int{int(a.Int64()), int(b.Int64()), int(c.Int64()), int(d.Int64())}
}

// P3.3, P3.5: what the rule has, at all shifts and at places of all sizes; neither below all four corners nor above them.
func TestFlatIsBetweenItsCorners(t *testing.T) {
	for shift := range 21 {
		for i, x := range ints() {
			for j, z := range ints() {
				seed, stage := uint64(i), ints()[(3*i+j)%len(ints())]
				want, corners := slowFlat(seed, stage, x, z, shift)
				got := Flat(seed, stage, x, z, shift)
				if got != want {
					t.Fatalf("Flat(%d, %d, %d, %d, %d) is %d, not %d", seed, stage, x, z, shift, got, want)
				}
				low := min(corners[0], corners[1], corners[2], corners[3])
				high := max(corners[0], corners[1], corners[2], corners[3])
				if got < low || got > high || got < 0 || got > 65535 {
					t.Fatalf("Flat(%d, %d, %d, %d, %d) is %d, with the corners %v", seed, stage, x, z, shift, got, corners)
				}
			}
		}
	}
}

// P3.3, P3.5: every place of some squares about 0, with sides up to 64.
func TestFlatOfSquares(t *testing.T) {
	for shift := range 7 {
		side := 1 << shift
		for x := -side - 1; x <= side+1; x++ {
			for z := -side - 1; z <= side+1; z++ {
				want, corners := slowFlat(5, 2, x, z, shift)
				got := Flat(5, 2, x, z, shift)
				if got != want {
					t.Fatalf("Flat(5, 2, %d, %d, %d) is %d, not %d", x, z, shift, got, want)
				}
				if got < min(corners[0], corners[1], corners[2], corners[3]) || got > max(corners[0], corners[1], corners[2], corners[3]) {
					t.Fatalf("Flat(5, 2, %d, %d, %d) is %d, with the corners %v", x, z, shift, got, corners)
				}
			}
		}
	}
}

// P3.5: at a corner the height is the corner's, also at the outermost corners of either side.
func TestFlatAtACorner(t *testing.T) {
	for shift := range 21 {
		first, last := least>>shift, greatest>>shift
		for _, cx := range []int{first, first + 1, -2, -1, 0, 1, 2, last - 1, last} {
			for _, cz := range []int{first, first + 1, -2, -1, 0, 1, 2, last - 1, last} {
				got := Flat(9, 4, cx<<shift, cz<<shift, shift)
				if want := Lattice(9, 4, cx, cz); got != want {
					t.Fatalf("at the corner %d, %d of shift %d: %d, not %d", cx, cz, shift, got, want)
				}
			}
		}
	}
}

// P3.3: of other shifts there is 0, wherever it is.
func TestFlatOfOtherShifts(t *testing.T) {
	for _, shift := range wrongs() {
		for _, x := range ints() {
			if got := Flat(7, x, x, -x, shift); got != 0 {
				t.Fatalf("Flat(7, %d, %d, %d, %d) is %d, not 0", x, x, -x, shift, got)
			}
		}
	}
}

// P3.4: sums, worked out apart from this program: of one and of eight, with the least shift that there may be and the greatest, below 0, at the least and the greatest int, and of stages that come to lie past the greatest int.
func TestOctaves(t *testing.T) {
	for _, x := range []struct {
		seed                           uint64
		stage, x, z, shift, many, want int
	}{
		{7, 1, 100, 200, 6, 1, 18242},
		{7, 1, 100, 200, 6, 4, 30169},
		{7, 1, -100, -200, 6, 4, 38816},
		{7, 1, 100, 200, 0, 1, 23172},
		{7, 1, 100, 200, 1, 2, 38612},
		{7, 1, 100, 200, 7, 8, 31289},
		{7, 1, -3, 5, 7, 8, 31745},
		{7, 1, 100, 200, 20, 8, 31217},
		{7, 1, 100, 200, 20, 1, 16738},
		{7, 1, 100, 200, 3, 4, 22186},
		{7, greatest, 100, 200, 6, 4, 38657},
		{7, greatest - 99, 100, 200, 6, 4, 30015},
		{7, greatest - 100, 100, 200, 6, 4, 39609},
		{7, least, 100, 200, 6, 4, 35785},
		{7, 1, greatest, least, 7, 8, 41157},
		{7, 1, least, greatest, 7, 8, 20352},
		{7, 1, greatest, greatest, 7, 8, 15607},
		{7, 1, least, least, 20, 8, 16096},
		{all, -1, -1, -1, 8, 8, 37675},
	} {
		if got := Octaves(x.seed, x.stage, x.x, x.z, x.shift, x.many); got != x.want {
			t.Errorf("Octaves(%d, %d, %d, %d, %d, %d) is %d, not %d", x.seed, x.stage, x.x, x.z, x.shift, x.many, got, x.want)
		}
	}
}

// slowOctaves is P3.4's rule, one halving at a time.
func slowOctaves(seed uint64, stage, x, z, shift, many int) int {
	sum := 0
	for i := 0; i < many; i++ {
		s := wrapped(big.NewInt(int64(stage)), int64(100*i))
		v, _ := slowFlat(seed, s, x, z, shift-i)
		for range i + 1 {
			v /= 2
		}
		sum += v
	}
	return sum
}

// P3.4, P3.5: every pair of a shift and a number of octaves about those that may be; of others there is 0; all are from 0 to 65535.
func TestOctavesOfAllShifts(t *testing.T) {
	places := ints()
	for shift := -2; shift < 24; shift++ {
		for many := -2; many < 12; many++ {
			may := many >= 1 && many <= 8 && shift >= many-1 && shift <= 20
			for i, x := range places {
				z, stage := places[(i*5+2)%len(places)], places[(i*7+many+2)%len(places)]
				want := 0
				if may {
					want = slowOctaves(3, stage, x, z, shift, many)
				}
				got := Octaves(3, stage, x, z, shift, many)
				if got != want || got < 0 || got > 65535 {
					t.Fatalf("Octaves(3, %d, %d, %d, %d, %d) is %d, not %d", stage, x, z, shift, many, got, want)
				}
			}
		}
	}
}

// P3.4: one octave is half of Flat.
func TestOneOctave(t *testing.T) {
	for shift := range 21 {
		for _, x := range ints() {
			if got, want := Octaves(8, 6, x, x/3, shift, 1), Flat(8, 6, x, x/3, shift)/2; got != want {
				t.Fatalf("Octaves(8, 6, %d, %d, %d, 1) is %d, not %d", x, x/3, shift, got, want)
			}
		}
	}
}

// P3.4: a shift or a number of octaves that may not be, far beyond the bounds and together with the least and the greatest int.
func TestOctavesOfOtherNumbers(t *testing.T) {
	far := append(wrongs(), 0, 9, 10)
	for _, n := range far {
		for _, x := range ints() {
			for _, shift := range append(far, 7, 20) {
				if got := Octaves(7, x, x, -x, shift, n); got != 0 {
					t.Fatalf("Octaves(7, %d, %d, %d, %d, %d) is %d, not 0", x, x, -x, shift, n, got)
				}
			}
		}
	}
	for _, shift := range wrongs() {
		for many := 1; many <= 8; many++ {
			if got := Octaves(7, 1, 100, 200, shift, many); got != 0 {
				t.Errorf("Octaves(7, 1, 100, 200, %d, %d) is %d, not 0", shift, many, got)
			}
		}
	}
}

// P3.5, R5: one call after another, in any order, has the same answers.
func TestNothingIsKept(t *testing.T) {
	l := ints()
	var flats, octaves []int
	for i, x := range l {
		flats = append(flats, Flat(uint64(i), i, x, -x, i%21))
		octaves = append(octaves, Octaves(uint64(i), i, x, -x, 7+i%14, 1+i%8))
	}
	for i := len(l) - 1; i >= 0; i-- {
		if got := Octaves(uint64(i), i, l[i], -l[i], 7+i%14, 1+i%8); got != octaves[i] {
			t.Errorf("Octaves %d is %d, and was %d", i, got, octaves[i])
		}
		if got := Flat(uint64(i), i, l[i], -l[i], i%21); got != flats[i] {
			t.Errorf("Flat %d is %d, and was %d", i, got, flats[i])
		}
	}
}

// P3.3: neighbours are alike: the fade is at most one and a half as steep as a line, which is 96 of a step with corners 1024 apart, and each of the three roundings adds 1 at most.
func TestFlatIsSmooth(t *testing.T) {
	for x := -3000; x < 3000; x++ {
		step := Flat(2, 3, x+1, 40, 10) - Flat(2, 3, x, 40, 10)
		if step < -99 || step > 99 {
			t.Fatalf("from %d on by %d", x, step)
		}
	}
}
