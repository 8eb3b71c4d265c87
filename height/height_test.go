package height

import (
	"math"
	"math/big"
	"slices"
	"testing"

	"outcrop/api"
	"outcrop/noise"
)

const (
	least    = math.MinInt
	greatest = math.MaxInt
	all      = math.MaxUint64
)

// seeds are the least, the greatest, and some between.
func seeds() []uint64 {
	return []uint64{0, 1, 7, 42, 1 << 31, 1 << 63, all - 1, all}
}

// ints are coordinates: about 0, about the sides of chunks and of octaves, about the world's border, and about the least and the greatest.
func ints() []int {
	l := []int{0, 5, 100, -100, 123456, -654321}
	for _, n := range []int{1, 8, 16, 32, 64, 128, 1 << 20, 1 << 40} {
		l = append(l, n-1, n, n+1, -n-1, -n, -n+1)
	}
	for n := range 3 {
		l = append(l, least+n, greatest-n)
	}
	return append(l, least+64, least+63, greatest-64, greatest-63, least+1<<20, greatest-1<<20)
}

// chunks are at 0, of all signs, at the world's border, at the ends of the columns' numbers, and where a chunk's number times 16 wraps round.
func chunks() []api.At {
	border := api.MaxCoord / 16
	var l []api.At
	for _, p := range [][2]int{
		{0, 0},
		{0, 1}, {1, 0}, {-1, 0}, {0, -1}, {-1, -1},
		{-2, 5}, {5, -2}, {37, 41}, {-37, -41},
		{border, border}, {border, -border}, {-border, border}, {-border, -border}, {border + 1, -border - 1},
		{greatest >> 4, greatest >> 4}, {greatest >> 4, least >> 4}, {least >> 4, greatest >> 4}, {least >> 4, least >> 4},
		{greatest>>4 + 1, least>>4 - 1}, {1 << 60, -1 << 60}, {1<<60 + 3, -1<<60 - 3},
		{greatest, greatest}, {greatest, least}, {least, greatest}, {least, least}, {greatest - 1, least + 1},
	} {
		l = append(l, api.At{X: p[0], Z: p[1]})
	}
	return l
}

// wrapped is the lowest 64 bits of a chunk's number times 16 and what is added to it.
func wrapped(c, more int) int {
	v := new(big.Int).Mul(big.NewInt(int64(c)), big.NewInt(16))
	v.Add(v, big.NewInt(int64(more)))
	return int(v.Mod(v, new(big.Int).Lsh(big.NewInt(1), 64)).Uint64())
}

// ruleOf is P13.1's rule, with a Div that rounds down whatever it is given.
func ruleOf(seed uint64, x, z int) int {
	v := big.NewInt(int64(noise.Octaves(seed, 10, x, z, 6, 4)))
	v.Mul(v, big.NewInt(72)).Div(v, big.NewInt(65536))
	return 20 + int(v.Int64())
}

// ruleBand is P13.2's rule, asked from above.
func ruleBand(seed uint64, x, z int) int {
	n := noise.Octaves(seed, 11, x, z, 7, 2)
	if n >= 36000 {
		return 3
	}
	if n >= 25000 {
		return 1
	}
	if n >= 16000 {
		return 0
	}
	return 2
}

// column is one, with its height and its band.
type column struct {
	seed         uint64
	x, z         int
	height, band int
}

// known are columns that were worked out apart from this program: about 0, of all signs, at the world's border, and at the least and the greatest int.
func known() []column {
	return []column{
		{0, 0, 0, 66, 1},
		{0, 16, -17, 62, 0},
		{0, 63, 64, 50, 0},
		{0, -64, -65, 62, 0},
		{0, 100, 200, 55, 1},
		{0, -100, 200, 52, 0},
		{0, 200, -100, 65, 0},
		{0, 1048576, -1048576, 61, 3},
		{0, -1048576, 1048576, 49, 2},
		{0, -1048576, -1048576, 36, 0},
		{0, greatest, greatest, 47, 1},
		{0, least, least, 62, 3},
		{0, greatest, least, 45, 2},
		{0, least, greatest, 42, 1},
		{1, 63, 64, 44, 2},
		{1, -64, -65, 55, 0},
		{1, 100, 200, 51, 1},
		{1, 1048576, 1048576, 41, 1},
		{1, greatest, greatest, 55, 2},
		{1, least, greatest, 39, 3},
		{7, 0, 0, 45, 2},
		{7, -1, -1, 45, 2},
		{7, 16, -17, 49, 2},
		{7, 63, 64, 63, 0},
		{7, 1048576, -1048576, 68, 1},
		{7, -1048576, 1048576, 32, 2},
		{7, greatest, least, 62, 2},
		{7, greatest - 16, least + 16, 61, 0},
		{all, 0, 0, 55, 3},
		{all, 16, -17, 58, 1},
		{all, 63, 64, 77, 1},
		{all, -64, -65, 41, 1},
		{all, 100, 200, 48, 0},
		{all, -1048576, -1048576, 35, 3},
		{all, greatest, greatest, 61, 1},
		{all, least, least, 45, 0},
		{all, least, greatest, 50, 2},
		{all, greatest - 16, least + 16, 52, 0},
	}
}

// P13.1, P13.2: columns that are known.
func TestKnownColumns(t *testing.T) {
	for _, k := range known() {
		if got := Of(k.seed, k.x, k.z); got != k.height {
			t.Errorf("Of(%d, %d, %d) is %d, not %d", k.seed, k.x, k.z, got, k.height)
		}
		if got := Band(k.seed, k.x, k.z); got != k.band {
			t.Errorf("Band(%d, %d, %d) is %d, not %d", k.seed, k.x, k.z, got, k.band)
		}
	}
}

// P13.1, P13.2, P13.4, P1: what the rules have, at columns of all sizes and of all seeds.
func TestRules(t *testing.T) {
	for _, seed := range seeds() {
		for _, x := range ints() {
			for _, z := range ints() {
				holdColumn(t, seed, x, z)
			}
		}
	}
}

// holdColumn holds a column against the rules.
func holdColumn(t *testing.T, seed uint64, x, z int) {
	t.Helper()
	got, want := Of(seed, x, z), ruleOf(seed, x, z)
	if got != want || got < 20 || got > 91 {
		t.Fatalf("Of(%d, %d, %d) is %d, not %d", seed, x, z, got, want)
	}
	if got, want := Band(seed, x, z), ruleBand(seed, x, z); got != want {
		t.Fatalf("Band(%d, %d, %d) is %d, not %d", seed, x, z, got, want)
	}
}

// P13.1, P13.4: columns whose noise is the last of a height or the first of the next one: at the least heights that there are, at the sea, and at the greatest ones. Four octaves are 61436 at most: no column is above 87.
func TestOfOnBothSidesOfAStep(t *testing.T) {
	for _, e := range []struct {
		seed              uint64
		x, z, noise, want int
	}{
		{0, -115520, 293376, 910, 20},
		{7, 12160, -230976, 910, 20},
		{7, -102592, 188736, 911, 21},
		{42, -137216, -59968, 911, 21},
		{7, -39, 54, 21845, 43},
		{all, 53, 120, 21845, 43},
		{0, 72, -45, 21846, 44},
		{all, 82, -81, 21846, 44},
		{7, -215488, 222848, 60984, 86},
		{42, 218624, 778048, 60984, 86},
		{all, -134976, -4800, 60985, 87},
		{0, -24576, -114112, 61066, 87},
	} {
		if n := noise.Octaves(e.seed, 10, e.x, e.z, 6, 4); n != e.noise {
			t.Errorf("the noise of %d at %d, %d is %d, not %d", e.seed, e.x, e.z, n, e.noise)
		}
		if got := Of(e.seed, e.x, e.z); got != e.want {
			t.Errorf("Of(%d, %d, %d) is %d, not %d", e.seed, e.x, e.z, got, e.want)
		}
	}
}

// P13.2: columns whose noise is just below a bound, and just at it.
func TestBandOnBothSidesOfABound(t *testing.T) {
	for _, e := range []struct {
		seed              uint64
		x, z, noise, want int
	}{
		{0, -21, -119, 15999, api.Desert},
		{7, -145, 58, 15999, api.Desert},
		{0, -35, -182, 16000, api.Plain},
		{7, -58, -29, 16000, api.Plain},
		{all, 42, -128, 16000, api.Plain},
		{7, -163, 196, 24999, api.Plain},
		{42, -85, 58, 24999, api.Plain},
		{0, -91, 178, 25000, api.Forest},
		{7, 56, -56, 25000, api.Forest},
		{all, -20, 58, 25000, api.Forest},
		{7, -179, -116, 35999, api.Forest},
		{42, 112, -11, 35999, api.Forest},
		{all, -6, 10, 36000, api.Ridge},
	} {
		if n := noise.Octaves(e.seed, 11, e.x, e.z, 7, 2); n != e.noise {
			t.Errorf("the noise of %d at %d, %d is %d, not %d", e.seed, e.x, e.z, n, e.noise)
		}
		if got := Band(e.seed, e.x, e.z); got != e.want {
			t.Errorf("Band(%d, %d, %d) is %d, not %d", e.seed, e.x, e.z, got, e.want)
		}
	}
}

// P13.1, P13.2, P13.4: over wide land of each seed all four bands come up, and heights of nearly all that there may be; none is beyond 20 and 91.
func TestWideLand(t *testing.T) {
	for _, seed := range seeds() {
		bands := map[int]int{}
		low, high := greatest, least
		for x := -1600; x < 1600; x += 13 {
			for z := -1600; z < 1600; z += 11 {
				holdColumn(t, seed, x, z)
				h := Of(seed, x, z)
				low, high = min(low, h), max(high, h)
				bands[Band(seed, x, z)]++
			}
		}
		for band := range api.Bands {
			if bands[band] == 0 {
				t.Errorf("seed %d has no band %d", seed, band)
			}
		}
		if len(bands) != api.Bands {
			t.Errorf("seed %d has the bands %v", seed, bands)
		}
		if low < 20 || low > 30 || high < 76 || high > 91 {
			t.Errorf("seed %d has heights from %d to %d", seed, low, high)
		}
	}
}

// P13.3: of each chunk two lists of 256, with the height and the band of each column at its place.
func TestMap(t *testing.T) {
	for _, seed := range seeds() {
		for _, c := range chunks() {
			heights, bands := Map(seed, c)
			if len(heights) != 256 || len(bands) != 256 {
				t.Fatalf("Map(%d, %v) has %d heights and %d bands", seed, c, len(heights), len(bands))
			}
			for z := range 16 {
				for x := range 16 {
					i, ax, az := z*16+x, wrapped(c.X, x), wrapped(c.Z, z)
					if want := Of(seed, ax, az); heights[i] != want || want != ruleOf(seed, ax, az) {
						t.Fatalf("Map(%d, %v) has the height %d at %d, not %d", seed, c, heights[i], i, want)
					}
					if want := Band(seed, ax, az); bands[i] != want || want != ruleBand(seed, ax, az) {
						t.Fatalf("Map(%d, %v) has the band %d at %d, not %d", seed, c, bands[i], i, want)
					}
				}
			}
		}
	}
}

// P13.3: columns that are known, at the places where a map must have them.
func TestMapOfKnownColumns(t *testing.T) {
	for _, k := range known() {
		heights, bands := Map(k.seed, api.At{X: k.x >> 4, Z: k.z >> 4})
		if i := (k.z&15)*16 + (k.x & 15); heights[i] != k.height || bands[i] != k.band {
			t.Errorf("the column %d, %d of seed %d has %d and %d, not %d and %d", k.x, k.z, k.seed, heights[i], bands[i], k.height, k.band)
		}
	}
}

// P13.3: x goes along a row and z from row to row: a chunk that is turned over its diagonal would be another one.
func TestMapIsNotTurned(t *testing.T) {
	heights, bands := Map(3, api.At{X: -2, Z: 5})
	turned := func(l []int) []int {
		var o []int
		for x := range 16 {
			for z := range 16 {
				o = append(o, l[z*16+x])
			}
		}
		return o
	}
	if slices.Equal(heights, turned(heights)) {
		t.Error("these heights tell nothing of x and z")
	}
	if heights[1] != Of(3, -31, 80) || heights[16] != Of(3, -32, 81) || heights[255] != Of(3, -17, 95) {
		t.Error("heights at other places")
	}
	if bands[1] != Band(3, -31, 80) || bands[16] != Band(3, -32, 81) || bands[255] != Band(3, -17, 95) {
		t.Error("bands at other places")
	}
}

// P13.3: what two chunks tell on both sides of their border is what is told of these columns alone, also where the numbers wrap round.
func TestMapAtBorders(t *testing.T) {
	for _, seed := range []uint64{0, 7, all} {
		for _, c := range chunks() {
			here, hereBands := Map(seed, c)
			east, eastBands := Map(seed, api.At{X: c.X + 1, Z: c.Z})
			south, southBands := Map(seed, api.At{X: c.X, Z: c.Z + 1})
			for n := range 16 {
				x, z := wrapped(c.X, n), wrapped(c.Z, n)
				holdPlace(t, seed, wrapped(c.X, 15), z, here[n*16+15], hereBands[n*16+15])
				holdPlace(t, seed, wrapped(c.X, 16), z, east[n*16], eastBands[n*16])
				holdPlace(t, seed, x, wrapped(c.Z, 15), here[240+n], hereBands[240+n])
				holdPlace(t, seed, x, wrapped(c.Z, 16), south[n], southBands[n])
			}
		}
	}
}

// holdPlace holds what a map tells of a column against what is told of it alone.
func holdPlace(t *testing.T, seed uint64, x, z, height, band int) {
	t.Helper()
	if want := Of(seed, x, z); height != want {
		t.Fatalf("a map of seed %d has the height %d at %d, %d, not %d", seed, height, x, z, want)
	}
	if want := Band(seed, x, z); band != want {
		t.Fatalf("a map of seed %d has the band %d at %d, %d, not %d", seed, band, x, z, want)
	}
}

// P13.3, R3: a list is the caller's own: what is changed in it, or added to it, is to be seen neither in another list nor in a later one.
func TestListsAreTheirOwn(t *testing.T) {
	for _, c := range chunks() {
		heights, bands := Map(7, c)
		again, againBands := Map(7, c)
		keptHeights, keptBands := slices.Clone(heights), slices.Clone(bands)
		for i := range heights {
			heights[i] = -1
		}
		_ = append(heights, -2)
		if !slices.Equal(bands, keptBands) {
			t.Fatalf("%v: bands are changed with heights", c)
		}
		for i := range bands {
			bands[i] = -3
		}
		_ = append(bands, -4)
		if slices.ContainsFunc(heights, func(h int) bool { return h != -1 }) {
			t.Fatalf("%v: heights are changed with bands", c)
		}
		if !slices.Equal(again, keptHeights) || !slices.Equal(againBands, keptBands) {
			t.Fatalf("%v: a call's lists are changed with another call's", c)
		}
		later, laterBands := Map(7, c)
		if !slices.Equal(later, keptHeights) || !slices.Equal(laterBands, keptBands) {
			t.Fatalf("%v: a later call tells what was changed", c)
		}
	}
}

// R5: nothing hangs on what was asked before: the other way round the answers are the same.
func TestNothingIsKept(t *testing.T) {
	l := chunks()
	var heights, bands [][]int
	for i, c := range l {
		h, b := Map(seeds()[i%len(seeds())], c)
		heights, bands = append(heights, h), append(bands, b)
	}
	for i := len(l) - 1; i >= 0; i-- {
		h, b := Map(seeds()[i%len(seeds())], l[i])
		if !slices.Equal(h, heights[i]) || !slices.Equal(b, bands[i]) {
			t.Errorf("%v is told otherwise the second time", l[i])
		}
	}
}

// P13.1, P13.2: seeds have lands of their own, and a land's bands are not its heights.
func TestSeedsDiffer(t *testing.T) {
	for i, a := range seeds() {
		heights, bands := Map(a, api.At{})
		for _, b := range seeds()[i+1:] {
			if other, _ := Map(b, api.At{}); slices.Equal(heights, other) {
				t.Errorf("the seeds %d and %d have the same heights", a, b)
			}
		}
		if slices.Equal(heights, bands) {
			t.Errorf("seed %d has its heights as bands", a)
		}
	}
}

// A chunk's columns may be left before the last one.
func TestColumnsAreLeft(t *testing.T) {
	for _, c := range chunks() {
		for many := 1; many <= 256; many += 15 {
			n := 0
			for x, z := range columns(c) {
				if x != wrapped(c.X, n%16) || z != wrapped(c.Z, n/16) {
					t.Fatalf("the column %d of %v is %d, %d", n, c, x, z)
				}
				n++
				if n == many {
					break
				}
			}
			if n != many {
				t.Fatalf("%v has %d columns, not %d", c, n, many)
			}
		}
	}
}
