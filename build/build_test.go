package build

import (
	"math"
	"math/rand"
	"slices"
	"testing"

	"outcrop/api"
	"outcrop/caves"
	"outcrop/chunk"
	"outcrop/grid"
	"outcrop/height"
	"outcrop/num"
	"outcrop/rng"
	"outcrop/strata"
	"outcrop/veins"
)

const (
	least    = math.MinInt
	greatest = math.MaxInt
)

// seeds and places are what most chunks are of: on both sides of 0, at the world's ends, and where numbers wrap round.
var (
	seeds  = []uint64{0, 1, 7, math.MaxUint64}
	places = []api.At{{}, {X: -1, Z: -1}, {X: 1, Z: -1}, {X: -37, Z: 41}, {X: 65536, Z: -65536}, {X: greatest, Z: least}, {X: 1 << 59, Z: 1<<59 - 1}, {X: 1<<59 - 1, Z: -1 << 59}}
)

// The sorts of features, in their order.
const (
	aRuin = iota
	aLamp
	aTree
)

// told is a feature as the chapter has it: its sort, its origin, its column, the height there, and a tree's length.
type told struct {
	sort, ox, oz, x, z, h, length int
}

// ruleOrigin is the feature of an origin whatever the ground is, and whether the origin has one, told with plain numbers and apart from the program. thin are the bits that a tree on a plain has to have as 0.
func ruleOrigin(seed uint64, sort, ox, oz int) (f told, thin int, is bool) {
	h := rng.Hash(seed, [3]int{41, 42, 40}[sort], ox, 0, oz)
	f = told{sort: sort, ox: ox, oz: oz}
	switch sort {
	case aRuin:
		f.x, f.z = ox*32+8+int(h/256%16), oz*32+8+int(h/4096%16)
	case aLamp:
		f.x, f.z = ox*16+int(h/256%16), oz*16+int(h/4096%16)
	case aTree:
		f.x, f.z = ox*8+int(h/256%8), oz*8+int(h/2048%8)
		f.length = int(h/65536%4) + 4
	}
	return f, int(h / 16384 % 4), rng.Below(h, 100) <= [3]int{34, 19, 69}[sort]
}

// ruleStands tells whether a feature may stand on ground.
func ruleStands(sort, h, band, thin int) bool {
	switch sort {
	case aLamp:
		return band == 0
	case aTree:
		return h > 43 && (band == 1 || band == 0 && thin == 0)
	}
	return true
}

// ruleFeatures are the features whose columns are in a square of columns, so many each way from a corner on, in their order. Each column is asked whether the feature of its own origin stands in it: a number is divided by 32, 16 and 8 downwards when its lowest bits fall off.
func ruleFeatures(seed uint64, x, z, many int, ground func(x, z int) (int, int)) []told {
	var all []told
	for i := range many * many {
		cx, cz := x+i%many, z+i/many
		for sort, low := range [3]int{5, 4, 3} {
			f, thin, is := ruleOrigin(seed, sort, cx>>low, cz>>low)
			if !is || f.x != cx || f.z != cz {
				continue
			}
			h, band := ground(cx, cz)
			if ruleStands(sort, h, band, thin) {
				f.h = h
				all = append(all, f)
			}
		}
	}
	slices.SortFunc(all, func(a, b told) int {
		return slices.Compare([]int{a.sort, a.oz, a.ox}, []int{b.sort, b.oz, b.ox})
	})
	return all
}

// What features look like, layer by layer from the lowest on: b is brick, g glass, l a lamp, t a log, o leaves, a blank air, and of a dot nothing is claimed.
var (
	ruinLayers = [][]string{
		{"bbbbb", "bbbbb", "bbbbb", "bbbbb", "bbbbb"},
		{"bbbbb", "b   b", "b l b", "b   b", "bbbbb"},
		{"bbbbb", "b   b", "b   b", "b   b", "bbbbb"},
		{"bbbbb", "b   b", "b   b", "b   b", "bbbbb"},
		{"ggggg", "ggggg", "ggggg", "ggggg", "ggggg"},
	}
	lampLayers  = [][]string{stem, stem, {".....", ".....", "..l..", ".....", "....."}}
	crownLayers = [][]string{
		{"..o..", ".ooo.", "ootoo", ".ooo.", "..o.."},
		{".ooo.", "ooooo", "ootoo", "ooooo", ".ooo."},
		{"..o..", ".ooo.", "ooooo", ".ooo.", "..o.."},
		{".....", "..o..", ".ooo.", "..o..", "....."},
		{".....", ".....", "..o..", ".....", "....."},
	}
	stem    = []string{".....", ".....", "..t..", ".....", "....."}
	nothing = []string{".....", ".....", ".....", ".....", "....."}
)

// layer is what a feature looks like so far above its ground.
func (f told) layer(dy int) []string {
	switch {
	case f.sort == aRuin && dy >= 0 && dy < 5:
		return ruinLayers[dy]
	case f.sort == aLamp && dy >= 1 && dy < 4:
		return lampLayers[dy-1]
	case f.sort == aTree && dy >= 1 && dy < f.length-1:
		return stem
	case f.sort == aTree && dy >= f.length-1 && dy < f.length+4:
		return crownLayers[dy-f.length+1]
	}
	return nothing
}

// claims is what a feature puts into a cell where that kind stood, and whether it claims it.
func (f told) claims(x, y, z, k int) (int, bool) {
	dx, dz := x-f.x+2, z-f.z+2
	if dx < 0 || dx > 4 || dz < 0 || dz > 4 || f.sort == aTree && k != 0 {
		return 0, false
	}
	switch f.layer(y - f.h)[dz][dx] {
	case 'b':
		return 12, true
	case 'g':
		return 14, true
	case 'l':
		return 13, true
	case 't':
		return 10, true
	case 'o':
		return 11, true
	case ' ':
		return 0, true
	}
	return 0, false
}

// claimed are the kinds that features put into a cell, one behind the other.
func claimed(all []told, x, y, z, k int) []int {
	var kinds []int
	for _, f := range all {
		if n, is := f.claims(x, y, z, k); is {
			kinds = append(kinds, n)
		}
	}
	return kinds
}

// ruleApply is P17.1's rule: what a chunk becomes by features.
func ruleApply(all []told, c api.At, x *chunk.Chunk) []byte {
	b := x.Bytes()
	for column := range 256 {
		cx, cz := c.X*16+column%16, c.Z*16+column/16
		var close []told
		for _, f := range all {
			if dx, dz := f.x-cx, f.z-cz; dx >= -2 && dx <= 2 && dz >= -2 && dz <= 2 {
				close = append(close, f)
			}
		}
		for i := column; i < len(b) && len(close) > 0; i += 256 {
			if kinds := claimed(close, cx, i/256, cz, int(b[i])); len(kinds) > 0 {
				b[i] = byte(kinds[0])
			}
		}
	}
	return b
}

// ground is the heights and bands of nine chunks.
type ground struct{ heights, bands [][]int }

// shaped is the ground near a chunk, asked of each column.
func shaped(c api.At, of func(x, z int) (int, int)) ground {
	var g ground
	for n := range 9 {
		h, b := make([]int, 256), make([]int, 256)
		for i := range 256 {
			h[i], b[i] = of((c.X+n%3-1)*16+i%16, (c.Z+n/3-1)*16+i/16)
		}
		g.heights, g.bands = append(g.heights, h), append(g.bands, b)
	}
	return g
}

// flat is ground that is the same everywhere.
func flat(h, band int) ground {
	return shaped(api.At{}, func(int, int) (int, int) { return h, band })
}

// rough is ground of any heights from low to high, and of any bands.
func rough(number int64, low, high int) ground {
	r := rand.New(rand.NewSource(number))
	return shaped(api.At{}, func(int, int) (int, int) { return low + r.Intn(high-low+1), r.Intn(4) })
}

// put is another ground for a column, told from the corner of the fifth chunk on.
func (g ground) put(x, z, h, band int) {
	n, i := (z+16)/16*3+(x+16)/16, (z+16)%16*16+(x+16)%16
	g.heights[n][i], g.bands[n][i] = h, band
}

// near is the ground of a column, if the nine are about that chunk.
func (g ground) near(c api.At) func(x, z int) (int, int) {
	return func(x, z int) (int, int) {
		dx, dz := x-c.X*16+16, z-c.Z*16+16
		n, i := dz/16*3+dx/16, dz%16*16+dx%16
		return g.heights[n][i], g.bands[n][i]
	}
}

// copy is other ground that is the same.
func (g ground) copy() ground {
	return ground{lists(g.heights), lists(g.bands)}
}

// lists are others with the same numbers.
func lists(l [][]int) [][]int {
	var all [][]int
	for _, v := range l {
		all = append(all, slices.Clone(v))
	}
	return all
}

// same tells whether two lists of lists have the same numbers.
func same(a, b [][]int) bool { return slices.EqualFunc(a, b, slices.Equal[[]int]) }

// applied is what Apply makes of a chunk and of ground that may be. What is handed in is to stay as it was, and the answer is to be another chunk.
func applied(t *testing.T, seed uint64, c api.At, x *chunk.Chunk, g ground) *chunk.Chunk {
	t.Helper()
	cells, kept := x.Bytes(), g.copy()
	got, e := Apply(seed, c, x, g.heights, g.bands)
	if e != api.OK || got == nil {
		t.Fatalf("of seed %d at %v: Apply answers %v and whether it has a chunk: %v", seed, c, e, got != nil)
	}
	if !slices.Equal(cells, x.Bytes()) || !same(kept.heights, g.heights) || !same(kept.bands, g.bands) {
		t.Fatalf("of seed %d at %v: Apply changes what is handed in", seed, c)
	}
	if got == x {
		t.Fatalf("of seed %d at %v: Apply answers the chunk that was handed in", seed, c)
	}
	return got
}

// holdApply holds each cell of a chunk against the rule, with all features of the nine chunks, and tells which these are.
func holdApply(t *testing.T, seed uint64, c api.At, x *chunk.Chunk, g ground) []told {
	t.Helper()
	got := applied(t, seed, c, x, g)
	all := ruleFeatures(seed, c.X*16-16, c.Z*16-16, 48, g.near(c))
	for i, want := range ruleApply(all, c, x) {
		if got.Get(i) != int(want) {
			t.Fatalf("of seed %d at %v: the cell %d, %d, %d was %d and is %d, not %d", seed, c, i%16, i/256, i/16%16, x.Get(i), got.Get(i), want)
		}
	}
	return all
}

// mixed is air, of which so many cells of a hundred are of any other kind.
func mixed(number int64, percent int) *chunk.Chunk {
	r := rand.New(rand.NewSource(number))
	x := chunk.New()
	for i := range api.Cells {
		if r.Intn(100) < percent {
			x.Set(i, 1+r.Intn(16))
		}
	}
	return x
}

// P17.1: the chapter's example.
func TestExample(t *testing.T) {
	for _, seed := range seeds {
		for _, c := range places {
			got := applied(t, seed, c, chunk.New(), flat(60, api.Forest)).Counts()
			if got[10] == 0 || got[11] == 0 {
				t.Errorf("of seed %d at %v: %d cells are 10 and %d are 11", seed, c, got[10], got[11])
			}
		}
	}
}

// seen is what a column of a feature has in it above ground of 60, where it stands alone: in all other columns the ground is desert, on which nothing but ruins stand.
func seen(t *testing.T, seed uint64, x, z, band int) []int {
	t.Helper()
	c := api.At{X: x >> 4, Z: z >> 4}
	g := flat(60, api.Desert)
	g.put(x&15, z&15, 60, band)
	got := applied(t, seed, c, chunk.New(), g)
	var kinds []int
	for y := 60; y < 72; y++ {
		kinds = append(kinds, got.Get(y*256+z&15*16+x&15))
	}
	return kinds
}

// stack are kinds one above the other, and air above them.
func stack(kinds ...int) []int {
	return append(kinds, make([]int, 12-len(kinds))...)
}

// trunk is what the column of a tree has in it.
func trunk(length int) []int {
	kinds := append([]int{0}, slices.Repeat([]int{10}, length)...)
	return stack(append(kinds, 11, 11, 11)...)
}

// P17.1: features of origins that are just there and just not, in the first and the last columns, and far away, worked out in another language.
func TestFeaturesKnown(t *testing.T) {
	ruined, lit := stack(12, 13, 0, 0, 14), stack(0, 10, 10, 13)
	for _, f := range []struct {
		seed         uint64
		sort, ox, oz int
		x, z, length int
		is           bool
	}{
		{3, aRuin, -5, -39, -144, -1236, 0, true},   // 34 of a hundred
		{3, aRuin, 37, -38, 1202, -1201, 0, false},  // 35
		{3, aRuin, -8, -40, -248, -1263, 0, true},   // 8 in x
		{3, aRuin, -29, -40, -905, -1272, 0, true},  // 23 in x, 8 in z
		{3, aRuin, -38, -40, -1195, -1257, 0, true}, // 23 in z
		{0, aRuin, -1, -1, -21, -16, 0, true},
		{1, aRuin, 0, 0, 17, 11, 0, true},
		{0, aRuin, 1 << 15, -1 << 15, 1048595, -1048562, 0, true},
		{5, aRuin, -1 << 58, 1<<58 - 1, least + 23, greatest - 10, 0, true},
		{3, aLamp, -40, -40, -631, -627, 0, true}, // 19
		{3, aLamp, -3, -39, -46, -610, 0, false},  // 20
		{3, aLamp, 13, -40, 208, -633, 0, true},   // 0 in x
		{3, aLamp, -17, -39, -257, -613, 0, true}, // 15 in x
		{3, aLamp, 36, -40, 588, -640, 0, true},   // 0 in z
		{3, aLamp, -21, -40, -330, -625, 0, true}, // 15 in z
		{5, aLamp, -1, -1, -13, -6, 0, true},
		{3, aLamp, 0, 0, 5, 5, 0, true},
		{9, aLamp, 1 << 16, -1 << 16, 1048584, -1048576, 0, true},
		{5, aLamp, -1 << 59, 1<<59 - 1, least + 10, greatest - 12, 0, true},
		{3, aTree, 6, -39, 49, -310, 7, true},      // 69
		{3, aTree, -23, -40, -178, -317, 6, false}, // 70
		{3, aTree, 1, -39, 8, -307, 4, true},       // 0 in x
		{3, aTree, -38, -40, -297, -319, 7, true},  // 7 in x
		{3, aTree, -29, -40, -225, -320, 6, true},  // 0 in z
		{3, aTree, -34, -40, -269, -313, 5, true},  // 7 in z
		{3, aTree, -1, -1, -8, -2, 7, true},
		{0, aTree, 0, 0, 0, 7, 4, true},
		{0, aTree, 1 << 17, -1 << 17, 1048578, -1048571, 4, true},
		{0, aTree, -1 << 60, 1<<60 - 1, least + 6, greatest - 4, 7, true},
	} {
		want := stack()
		if f.is {
			want = [][]int{ruined, lit, trunk(f.length)}[f.sort]
		}
		band := []int{api.Desert, api.Plain, api.Forest}[f.sort]
		if got := seen(t, f.seed, f.x, f.z, band); !slices.Equal(got, want) {
			t.Errorf("of seed %d the feature %d of %d, %d has %v at %d, %d, not %v", f.seed, f.sort, f.ox, f.oz, got, f.x, f.z, want)
		}
		if r, _, is := ruleOrigin(f.seed, f.sort, f.ox, f.oz); is != f.is || r.x != f.x || r.z != f.z || r.length != f.length {
			t.Errorf("the rule has %v and %v of seed %d, not %v", r, is, f.seed, f)
		}
	}
}

// P17.1: trees of seed 3 on each band, of each length and of each number that counts on plains alone, worked out in another language.
func TestTreesKnown(t *testing.T) {
	for _, f := range []struct{ x, z, length, thin int }{
		{171, -315, 4, 0}, {-148, -315, 4, 1}, {-202, -316, 4, 2}, {195, -319, 4, 3},
		{65, -315, 5, 0}, {-70, -320, 5, 1}, {-269, -313, 5, 2}, {-257, -319, 5, 3},
		{-33, -319, 6, 0}, {-294, -317, 6, 1}, {-283, -318, 6, 2}, {-225, -320, 6, 3},
		{-297, -319, 7, 0}, {-275, -315, 7, 1}, {-292, -312, 7, 2}, {-316, -316, 7, 3},
	} {
		for band := range 4 {
			want := stack()
			if band == api.Forest || band == api.Plain && f.thin == 0 {
				want = trunk(f.length)
			}
			if got := seen(t, 3, f.x, f.z, band); !slices.Equal(got, want) {
				t.Errorf("on the band %d the tree at %d, %d has %v, not %v", band, f.x, f.z, got, want)
			}
		}
	}
}

// P17.1: a lamp stands on a plain alone, and a ruin on each band.
func TestBandsOfLampsAndRuins(t *testing.T) {
	for band := range 4 {
		want := stack()
		if band == api.Plain {
			want = stack(0, 10, 10, 13)
		}
		if got := seen(t, 3, 5, 5, band); !slices.Equal(got, want) {
			t.Errorf("on the band %d the column of a lamp has %v, not %v", band, got, want)
		}
		if got := seen(t, 3, -144, -1236, band); !slices.Equal(got, stack(12, 13, 0, 0, 14)) {
			t.Errorf("on the band %d the column of a ruin has %v", band, got)
		}
	}
}

// P17.1: trees of many origins stand from 44 on; lamps and ruins below it too.
func TestHeightsOfTheSea(t *testing.T) {
	for _, c := range places {
		var below, from [3]int
		for seed := range uint64(20) {
			for _, h := range []int{20, 43, 44, 45} {
				for _, band := range []int{api.Plain, api.Forest} {
					n := &from
					if h < 44 {
						n = &below
					}
					for _, f := range holdApply(t, seed, c, chunk.New(), flat(h, band)) {
						n[f.sort]++
					}
					if logs := applied(t, seed, c, chunk.New(), flat(h, api.Forest)).Counts()[10]; h < 44 && logs > 0 {
						t.Fatalf("of seed %d at %v: trees on ground of %d", seed, c, h)
					}
				}
			}
		}
		if below[aTree] != 0 || slices.Contains(below[:2], 0) || slices.Contains(from[:], 0) {
			t.Errorf("at %v there are %v below the sea and %v above it", c, below, from)
		}
	}
}

// hits are how many features there are: of each sort, on each band, below the sea and from it on, whether they stand or not.
type hits [3][4][2][2]int

// count puts all origins' features within a chunk among the hits.
func (n *hits) count(seed uint64, c api.At, g ground) {
	of := g.near(c)
	for i := range 256 {
		x, z := c.X*16+i%16, c.Z*16+i/16
		for sort, low := range [3]int{5, 4, 3} {
			f, thin, is := ruleOrigin(seed, sort, x>>low, z>>low)
			if !is || f.x != x || f.z != z {
				continue
			}
			h, band := of(x, z)
			sea, stands := 0, 0
			if h > 43 {
				sea = 1
			}
			if ruleStands(sort, h, band, thin) {
				stands = 1
			}
			n[sort][band][sea][stands]++
		}
	}
}

// P17.1: many origins, on both sides of 0 and far away, over ground of all bands on both sides of the sea.
func TestFeaturesOfOrigins(t *testing.T) {
	var n hits
	for i, c := range append([]api.At{{X: -1}, {Z: -1}, {X: 3, Z: 2}, {X: -1 << 40, Z: 1 << 50}}, places...) {
		for seed := range uint64(25) {
			g := rough(int64(seed)+int64(i)*100, 40, 47)
			n.count(seed, c, g)
			holdApply(t, seed, c, chunk.New(), g)
		}
	}
	for band := range 4 {
		for sea := range 2 {
			if ruins := n[aRuin][band][sea]; ruins[0] != 0 || ruins[1] == 0 {
				t.Errorf("on the band %d ruins are %v", band, ruins)
			}
			if lamps := n[aLamp][band][sea]; (lamps[0] == 0) != (band == 0) || (lamps[1] > 0) != (band == 0) {
				t.Errorf("on the band %d lamps are %v", band, lamps)
			}
			trees := n[aTree][band][sea]
			if (trees[1] > 0) != (sea == 1 && band < 2) || (trees[0] == 0) != (sea == 1 && band == 1) {
				t.Errorf("on the band %d trees are %v", band, trees)
			}
		}
	}
}

// chequered is ground of which each column has another height than those beside it, and bands in stripes; high is ground up to the world's top.
func chequered(x, z int) (int, int) { return 38 + (x+3*z)&15, (x>>2 + z>>3) & 3 }
func high(x, z int) (int, int)      { return 100 + (5*x+z)&27, (x>>4 + z>>3) & 1 }

// P17.1: chunks with a ruin, a lamp and trees, worked out apart from this program and in another language: how many cells are of the five kinds, and the sum of all.
func TestApplyKnown(t *testing.T) {
	airy, full := chunk.New(), chunk.New()
	for i := 0; i < api.Cells; i += 5 {
		full.Set(i, i%17)
	}
	far, ends, last := api.At{X: 65536, Z: -65536}, api.At{X: greatest, Z: least}, api.At{X: 1<<59 - 1, Z: -1 << 59}
	for _, x := range []struct {
		seed   uint64
		c      api.At
		of     func(x, z int) (int, int)
		blocks *chunk.Chunk
		kinds  []int
		sum    uint32
	}{
		{115, api.At{}, chequered, airy, []int{6, 63, 53, 2, 20}, 0xbe5c442a},
		{115, api.At{}, chequered, full, []int{392, 438, 438, 388, 405}, 0x4d31a23e},
		{78, api.At{}, high, airy, []int{5, 20, 6, 1, 0}, 0xd40b8162},
		{78, api.At{}, high, full, []int{390, 401, 391, 387, 385}, 0xdb1df185},
		{553, api.At{X: -1, Z: 3}, chequered, airy, []int{7, 39, 42, 2, 15}, 0xd76929f4},
		{63, api.At{X: -1, Z: 3}, high, full, []int{392, 427, 456, 387, 384}, 0x12f9a4dd},
		{177, api.At{X: 2, Z: -3}, chequered, full, []int{389, 427, 427, 385, 400}, 0x72afc797},
		{187, api.At{X: 2, Z: -3}, high, airy, []int{20, 142, 57, 1, 0}, 0xd1742f54},
		{24, api.At{X: -37, Z: 41}, chequered, airy, []int{5, 63, 73, 1, 25}, 0xdd659abb},
		{242, api.At{X: -37, Z: 41}, high, full, []int{392, 445, 424, 386, 397}, 0xec85dace},
		{91, far, chequered, full, []int{396, 459, 405, 387, 390}, 0x8615f5c9},
		{2, far, high, airy, []int{13, 80, 42, 1, 0}, 0x102748ee},
		{429, ends, chequered, full, []int{386, 405, 427, 387, 400}, 0xe7ad51e4},
		{258, ends, high, airy, []int{6, 85, 33, 1, 0}, 0x3f516cdd},
		{544, api.At{X: 1 << 59, Z: 1<<59 - 1}, chequered, airy, []int{13, 107, 53, 1, 20}, 0x8c98f35d},
		{93, api.At{X: 1 << 59, Z: 1<<59 - 1}, high, full, []int{399, 460, 389, 387, 385}, 0x0f68d586},
		{866, last, chequered, full, []int{394, 439, 414, 386, 393}, 0x6b594f81},
		{27, last, high, airy, []int{11, 68, 42, 2, 15}, 0xb7139581},
	} {
		got := applied(t, x.seed, x.c, x.blocks, shaped(x.c, x.of))
		if n, sum := got.Counts(), num.Sum(got.Bytes()); !slices.Equal(n[10:15], x.kinds) || sum != x.sum {
			t.Errorf("of seed %d at %v: %v and the sum %x", x.seed, x.c, n[10:15], sum)
		}
	}
}

// alone is a feature that stands alone, at ground of a height, and the ground on which it does: in the column 8, 8 of the chunk, or as near to it as leaves its cells within.
func alone(t *testing.T, sort, length, h int) (uint64, told, ground) {
	t.Helper()
	for seed := range uint64(100000) {
		f, _, is := ruleOrigin(seed, sort, 0, 0)
		if !is || f.x < 3 || f.x > 12 || f.z < 3 || f.z > 12 || sort == aTree && f.length != length {
			continue
		}
		g := flat(h, api.Desert)
		g.put(f.x, f.z, h, []int{api.Desert, api.Plain, api.Forest}[sort])
		if f.h = h; slices.Equal(ruleFeatures(seed, -16, -16, 48, g.near(api.At{})), []told{f}) {
			return seed, f, g
		}
	}
	t.Fatalf("no feature of the sort %d and of length %d stands alone", sort, length)
	return 0, told{}, ground{}
}

// P17.1: the claims of each sort, cell by cell, and one cell beyond them each way, over chunks of each kind.
func TestClaims(t *testing.T) {
	for _, x := range []struct{ sort, length, cells int }{{aRuin, 0, 125}, {aLamp, 0, 3}, {aTree, 4, 55}, {aTree, 5, 56}, {aTree, 6, 57}, {aTree, 7, 58}} {
		seed, f, g := alone(t, x.sort, x.length, 60)
		for k := range api.None + 1 {
			n := 0
			blocks := chunk.Full(k)
			got := applied(t, seed, api.At{}, blocks, g)
			for dy := -1; dy < 12; dy++ {
				for dz := -3; dz < 4; dz++ {
					for dx := -3; dx < 4; dx++ {
						want, is := f.claims(f.x+dx, 60+dy, f.z+dz, k)
						if is {
							n++
						} else {
							want = k
						}
						if is := got.Get((60+dy)*256 + (f.z+dz)*16 + f.x + dx); is != want {
							t.Fatalf("%v: the cell %d, %d, %d away was %d and is %d, not %d", f, dx, dy, dz, k, is, want)
						}
					}
				}
			}
			for _, i := range got.Diff(blocks) {
				dx, dy, dz := i%16-f.x, i/256-60, i/16%16-f.z
				if max(dx, -dx, dz, -dz) > 2 || dy < 0 || dy > 11 {
					t.Fatalf("%v: the cell %d, %d, %d away is claimed", f, dx, dy, dz)
				}
			}
			if want := x.cells; n != want && (x.sort != aTree || k == 0 || n != 0) {
				t.Errorf("%v: of the kind %d it claims %d cells, not %d", f, k, n, want)
			}
			holdApply(t, seed, api.At{}, blocks, g)
		}
	}
}

// P17.1: single cells of other kinds: a tree leaves them and goes on beside them; ruins and lamps take them.
func TestClaimsOfMixtures(t *testing.T) {
	for i, percent := range []int{1, 20, 50, 90, 100} {
		for _, x := range []struct{ sort, length int }{{aRuin, 0}, {aLamp, 0}, {aTree, 4}, {aTree, 7}} {
			seed, _, g := alone(t, x.sort, x.length, 50)
			for k := range 4 {
				holdApply(t, seed, api.At{}, mixed(int64(10*i+k), percent), g)
			}
		}
	}
}

// P17.1: cells that two features claim, worked out in another language: the first one counts.
func TestTwoFeatures(t *testing.T) {
	last, first := 1<<59-1, -1<<59
	for _, x := range []struct {
		seed          uint64
		band          int
		c             api.At
		p             api.Pos
		first, second int
	}{
		{279, api.Plain, api.At{X: -3, Z: 2}, api.Pos{X: -47, Y: 61, Z: 40}, 0, 10},          // a lamp within a ruin
		{279, api.Plain, api.At{X: -3, Z: 2}, api.Pos{X: -47, Y: 63, Z: 40}, 0, 13},          //
		{2, api.Plain, api.At{}, api.Pos{X: 11, Y: 61, Z: 13}, 12, 10},                       // a lamp in a ruin's wall
		{2, api.Plain, api.At{}, api.Pos{X: 11, Y: 63, Z: 13}, 12, 13},                       //
		{3, api.Forest, api.At{X: 5, Z: -7}, api.Pos{X: 83, Y: 61, Z: -108}, 0, 10},          // a tree within a ruin
		{3, api.Forest, api.At{X: 5, Z: -7}, api.Pos{X: 83, Y: 64, Z: -108}, 14, 10},         //
		{31, api.Forest, api.At{X: 5, Z: -7}, api.Pos{X: 80, Y: 63, Z: -104}, 0, 11},         // a tree beside one
		{31, api.Forest, api.At{X: 5, Z: -7}, api.Pos{X: 81, Y: 63, Z: -105}, 12, 11},        //
		{212, api.Forest, api.At{X: 5, Z: -7}, api.Pos{X: 81, Y: 61, Z: -107}, 13, 10},       // a tree in a ruin's own column
		{6, api.Plain, api.At{}, api.Pos{X: 2, Y: 63, Z: 8}, 13, 11},                         // a lamp beside a tree
		{47, api.Plain, api.At{}, api.Pos{X: 5, Y: 63, Z: 12}, 13, 11},                       //
		{12, api.Forest, api.At{}, api.Pos{X: 6, Y: 66, Z: 4}, 10, 11},                       // the second tree's origin is one further in X
		{12, api.Forest, api.At{}, api.Pos{X: 8, Y: 66, Z: 4}, 11, 10},                       //
		{27, api.Forest, api.At{}, api.Pos{X: 2, Y: 65, Z: 7}, 10, 11},                       // in Z
		{27, api.Forest, api.At{}, api.Pos{X: 3, Y: 65, Z: 9}, 11, 10},                       //
		{65, api.Forest, api.At{X: -3, Z: 2}, api.Pos{X: -48, Y: 65, Z: 47}, 10, 11},         // in Z, and one back in X
		{382, api.Forest, api.At{}, api.Pos{X: 15, Y: 65, Z: 0}, 11, 10},                     //
		{229, api.Forest, api.At{X: -3, Z: 2}, api.Pos{X: -41, Y: 64, Z: 47}, 10, 11},        // in both
		{128, api.Forest, api.At{X: -3, Z: 2}, api.Pos{X: -48, Y: 65, Z: 32}, 11, 10},        //
		{295, api.Forest, api.At{X: last, Z: 5}, api.Pos{X: greatest, Y: 64, Z: 81}, 11, 10}, // from both sides of the numbers' end: the least origin is first
		{18, api.Forest, api.At{X: first, Z: 5}, api.Pos{X: least, Y: 64, Z: 82}, 10, 11},
		{8, api.Forest, api.At{X: 5, Z: last}, api.Pos{X: 85, Y: 64, Z: greatest - 1}, 11, 10},
		{67, api.Forest, api.At{X: 5, Z: last}, api.Pos{X: 83, Y: 64, Z: greatest}, 11, 10},
		{67, api.Forest, api.At{X: 5, Z: first}, api.Pos{X: 84, Y: 64, Z: least}, 10, 11},
	} {
		g := flat(60, x.band)
		all := holdApply(t, x.seed, x.c, chunk.New(), g)
		if got := claimed(all, x.p.X, x.p.Y, x.p.Z, 0); !slices.Equal(got, []int{x.first, x.second}) {
			t.Errorf("of seed %d the rule has %v at %v, not %d and %d", x.seed, got, x.p, x.first, x.second)
		}
		got := applied(t, x.seed, x.c, chunk.New(), g)
		if k := got.Get(x.p.Y*256 + x.p.Z&15*16 + x.p.X&15); k != x.first {
			t.Errorf("of seed %d the cell %v is %d, not %d", x.seed, x.p, k, x.first)
		}
	}
}

// both tells whether two features claim a cell of air within a chunk, each for another kind.
func both(a, b told, c api.At) bool {
	for i := range 5 * 5 * 11 {
		x, y, z := b.x-2+i%5, b.h+i/25, b.z-2+i/5%5
		one, first := a.claims(x, y, z, 0)
		two, second := b.claims(x, y, z, 0)
		if first && second && one != two && beyond(x-c.X*16) == 0 && beyond(z-c.Z*16) == 0 && y < 128 {
			return true
		}
	}
	return false
}

// P17.1: many cells that features of each two sorts claim, over even ground and over ground that goes up and down.
func TestManyClaimTheSame(t *testing.T) {
	pairs := map[[2]int]int{}
	for seed := range uint64(3000) {
		c := places[seed%uint64(len(places))]
		for _, g := range []ground{flat(50, api.Plain), flat(70, api.Forest), rough(int64(seed), 50, 54)} {
			all := ruleFeatures(seed, c.X*16-2, c.Z*16-2, 20, g.near(c))
			for i, a := range all {
				for _, b := range all[i+1:] {
					if both(a, b, c) {
						pairs[[2]int{a.sort, b.sort}]++
						holdApply(t, seed, c, chunk.New(), g)
					}
				}
			}
		}
	}
	for _, p := range [][2]int{{aRuin, aLamp}, {aRuin, aTree}, {aLamp, aTree}, {aTree, aTree}} {
		if pairs[p] == 0 {
			t.Errorf("no features of the sorts %v claim the same", p)
		}
	}
	if len(pairs) != 4 {
		t.Errorf("so many features claim the same: %v", pairs)
	}
}

// hanging are seeds of which a feature of a sort stands beside the chunk, at most two columns away on the side sx, sz (from -1 to 1), and these features.
func hanging(t *testing.T, sort int, c api.At, sx, sz, many int) map[uint64]told {
	t.Helper()
	found := map[uint64]told{}
	for seed := range uint64(20000) {
		for _, f := range ruleFeatures(seed, c.X*16-2, c.Z*16-2, 20, func(int, int) (int, int) { return 60, api.Forest }) {
			if f.sort == sort && sideOf(f.x-c.X*16) == sx && sideOf(f.z-c.Z*16) == sz {
				found[seed] = f
			}
		}
		if len(found) == many {
			return found
		}
	}
	t.Fatalf("too few features of the sort %d hang over from the side %d, %d at %v", sort, sx, sz, c)
	return nil
}

// sideOf is where a number so far from a chunk's corner lies: before the chunk, in it, or behind it.
func sideOf(v int) int {
	switch {
	case v < 0:
		return -1
	case v < 16:
		return 0
	}
	return 1
}

// P17.1, P17.2: ruins and trees whose columns lie in each of the eight chunks about one, and hang over its border or its corner. A ruin stands within two chunks by two, which are those from an even number on.
func TestFeaturesOverBorders(t *testing.T) {
	for side := range 9 {
		sx, sz := side%3-1, side/3-1
		if side == 4 {
			continue
		}
		for _, corner := range []api.At{{}, {X: -4, Z: -2}, {X: 65536, Z: -65536}, {X: 1<<59 - 2, Z: -1 << 59}} {
			c := api.At{X: corner.X + (1-sx)/2, Z: corner.Z + (1-sz)/2}
			for _, sort := range []int{aRuin, aTree} {
				for seed, f := range hanging(t, sort, c, sx, sz, 4) {
					x, z, y := f.x-c.X*16, f.z-c.Z*16, 60
					if sort == aTree && beyond(x)+beyond(z) == 4 {
						continue // leaves do not grow at the corners of a crown
					}
					if sort == aTree {
						y += f.length
					}
					holdApply(t, seed, c, chunk.New(), flat(60, api.Forest))
					got := applied(t, seed, c, chunk.New(), flat(60, api.Forest))
					if got.Get(y*256+num.Clamp(z, 0, 15)*16+num.Clamp(x, 0, 15)) == api.Air {
						t.Errorf("of seed %d %v does not hang over from %d, %d", seed, f, sx, sz)
					}
				}
			}
		}
	}
}

// P17.2: chunks side by side, each with the ground of its own nine, have all parts of the features of them all.
func TestChunksSideBySide(t *testing.T) {
	const many = 4
	hanging := [3]int{}
	for n, corner := range []api.At{{X: -2, Z: -2}, {X: 40, Z: -70}, {X: -65536, Z: 65533}, {X: 1<<59 - 2, Z: -1<<59 - 2}} {
		for seed := range uint64(10) {
			of := []func(x, z int) (int, int){chequered, high, func(int, int) (int, int) { return 64, api.Forest }, func(x, z int) (int, int) { return 50, (x>>3 + z>>3) & 1 }}[seed%4]
			all := ruleFeatures(seed, corner.X*16-16, corner.Z*16-16, (many+2)*16, of)
			for i := range many * many {
				c := api.At{X: corner.X + i%many, Z: corner.Z + i/many}
				blocks := mixed(int64(i), 10*n)
				got := applied(t, seed, c, blocks, shaped(c, of))
				if !slices.Equal(got.Bytes(), ruleApply(all, c, blocks)) {
					t.Errorf("of seed %d the chunk %v is otherwise than among all", seed, c)
				}
			}
			for _, f := range all {
				if f.sort != aLamp && ((f.x+2)>>4 != (f.x-2)>>4 || (f.z+2)>>4 != (f.z-2)>>4) {
					hanging[f.sort]++
				}
			}
		}
	}
	if hanging[aRuin] == 0 || hanging[aTree] == 0 {
		t.Errorf("so many hang over borders: %v", hanging)
	}
}

// P17.2: a ruin and a tree that stand within a chunk, on a border and at a corner, counted over the chunks that they are in.
func TestFeaturesAreWhole(t *testing.T) {
	for _, sort := range []int{aRuin, aTree} {
		shapes := map[int]int{}
		for seed := range uint64(3000) {
			f, _, is := ruleOrigin(seed, sort, 0, 0)
			of := func(x, z int) (int, int) {
				if sort == aTree && x == f.x && z == f.z {
					return 60, api.Forest
				}
				return 60, api.Ridge
			}
			if !is || shapes[parts(f)] > 4 || len(ruleFeatures(seed, -34, -34, 84, of)) != 1 {
				continue
			}
			shapes[parts(f)]++
			counts := make([]int, 17)
			for i := range 25 {
				c := api.At{X: i%5 - 2, Z: i/5 - 2}
				for k, n := range applied(t, seed, c, chunk.New(), shaped(c, of)).Counts() {
					counts[k] += n
				}
			}
			want := []int{0, 0, 25 + 3*16, 1, 25}
			if sort == aTree {
				want = []int{f.length, 51, 0, 0, 0}
			}
			if !slices.Equal(counts[10:15], want) {
				t.Errorf("of seed %d %v has %v in all, not %v", seed, f, counts[10:15], want)
			}
		}
		if shapes[1] == 0 || shapes[2] == 0 || shapes[4] == 0 {
			t.Errorf("features of the sort %d are seen in so many chunks: %v", sort, shapes)
		}
	}
}

// parts is in how many chunks a feature has columns.
func parts(f told) int {
	return ((f.x+2)>>4 - (f.x-2)>>4 + 1) * ((f.z+2)>>4 - (f.z-2)>>4 + 1)
}

// P17.1: ground of each height: what would be above the world is not there.
func TestEachHeight(t *testing.T) {
	for h := range 128 {
		for i := range 6 {
			n := (h*5 + i) % len(places)
			holdApply(t, uint64(i), places[n], chunk.Full(i%3), flat(h, i%2))
			holdApply(t, uint64(h), places[n], mixed(int64(h), 30), flat(h, i%2))
		}
	}
}

// P17.1: features that stand alone near the world's floor and near its top.
func TestFloorAndTop(t *testing.T) {
	top := func(h, highest int) int { return min(h+highest, 127) }
	for _, h := range []int{0, 1, 2, 43, 44, 112, 115, 116, 117, 118, 119, 120, 121, 122, 123, 124, 125, 126, 127} {
		seed, f, g := alone(t, aRuin, 0, h)
		got := applied(t, seed, api.At{}, chunk.New(), g)
		if is := got.Top(f.x, f.z); is != top(h, 4) && (h < 124 || is != min(h+1, 127)) {
			t.Errorf("a ruin on %d goes up to %d", h, is)
		}
		if got.Get(h*256+f.z*16+f.x) != api.Brick || got.Counts()[0] == api.Cells {
			t.Errorf("a ruin on %d has no floor", h)
		}
		seed, f, g = alone(t, aLamp, 0, h)
		if is := applied(t, seed, api.At{}, chunk.New(), g).Top(f.x, f.z); is != top(h, 3) && (h < 127 || is != -1) {
			t.Errorf("a lamp on %d goes up to %d", h, is)
		}
		if h < 44 {
			continue
		}
		seed, f, g = alone(t, aTree, 7, h)
		if is := applied(t, seed, api.At{}, chunk.New(), g).Top(f.x, f.z); is != top(h, 10) && (h < 127 || is != -1) {
			t.Errorf("a tree on %d goes up to %d", h, is)
		}
	}
	for i, g := range []ground{rough(1, 0, 3), rough(2, 0, 10), rough(3, 115, 127), rough(4, 124, 127), rough(5, 0, 127)} {
		for seed := range uint64(20) {
			holdApply(t, seed, places[(int(seed)+i)%len(places)], mixed(int64(seed), 10*i), g)
		}
	}
}

// P17.1: a ruin on ground of 0 has bricks where bedrock was.
func TestRuinOnBedrock(t *testing.T) {
	seed, f, g := alone(t, aRuin, 0, 0)
	x := chunk.New()
	x.Fill(0, 0, api.Bedrock)
	got := applied(t, seed, api.At{}, x, g).Counts()
	if got[api.Bedrock] != 256-25 || got[api.Brick] != 25+3*16 {
		t.Errorf("%v leaves %d of bedrock and has %d of brick", f, got[api.Bedrock], got[api.Brick])
	}
}

// refused holds that Apply answers ErrArg and no chunk, and changes nothing.
func refused(t *testing.T, x *chunk.Chunk, g ground, what string, place ...int) {
	t.Helper()
	kept := g.copy()
	before := x.Bytes()
	for _, c := range []api.At{{}, {X: greatest, Z: least}} {
		if got, e := Apply(1, c, x, g.heights, g.bands); e != api.ErrArg || got != nil {
			t.Errorf("Apply with %s at %v answers %v and whether it has a chunk: %v", what, place, e, got != nil)
		}
	}
	if !slices.Equal(before, x.Bytes()) || !same(kept.heights, g.heights) || !same(kept.bands, g.bands) {
		t.Errorf("Apply with %s at %v changes what is handed in", what, place)
	}
}

// P17.1, P1: no chunk, and lists that are none, too few or too many.
func TestApplyRefusesLists(t *testing.T) {
	x, good := chunk.Full(api.Dirt), flat(60, api.Forest)
	refused(t, nil, good, "no chunk")
	refused(t, nil, ground{}, "nothing at all")
	more := slices.Repeat([][]int{make([]int, 256)}, 30)
	for _, n := range []int{0, 1, 3, 4, 8, 10, 18, 30} {
		refused(t, x, ground{more[:n], good.bands}, "so many heights", n)
		refused(t, x, ground{good.heights, more[:n]}, "so many bands", n)
		refused(t, x, ground{more[:n], more[:n]}, "so many of both", n)
	}
	refused(t, x, ground{nil, good.bands}, "no heights")
	refused(t, x, ground{good.heights, nil}, "no bands")
	refused(t, x, ground{good.heights, slices.Insert(lists(good.bands), 9, nil)}, "nine bands and one that is nil")
	for i := range 9 {
		for _, n := range []int{0, 1, 16, 255, 257, 512} {
			g := good.copy()
			g.heights[i] = make([]int, n)
			refused(t, x, g, "heights of so many columns", i, n)
			g = good.copy()
			g.bands[i] = make([]int, n)
			refused(t, x, g, "bands of so many columns", i, n)
		}
		g := good.copy()
		g.heights[i] = nil
		refused(t, x, g, "no heights of one", i)
		g = good.copy()
		g.bands[i] = nil
		refused(t, x, g, "no bands of one", i)
	}
}

// P17.1, P1: heights and bands that are none, in each list; the last ones that may be are taken.
func TestApplyRefusesNumbers(t *testing.T) {
	x, good := mixed(1, 10), flat(60, api.Forest)
	for i := range 9 {
		for _, k := range []int{0, 1, 100, 254, 255} {
			for _, n := range []int{-1, 128, -2, 129, 256, 1 << 32, least, greatest} {
				g := good.copy()
				g.heights[i][k] = n
				refused(t, x, g, "a height", i, k, n)
			}
			for _, n := range []int{-1, 4, -2, 5, 256, 1 << 32, least, greatest} {
				g := good.copy()
				g.bands[i][k] = n
				refused(t, x, g, "a band", i, k, n)
				g.heights[i][k] = n
				refused(t, nil, g, "all of it", i, k, n)
			}
			for _, n := range [][2]int{{0, 0}, {127, 3}} {
				g := good.copy()
				g.heights[i][k], g.bands[i][k] = n[0], n[1]
				holdApply(t, 1, api.At{}, x, g)
			}
		}
	}
}

// beyond is how far a number from a chunk's corner on is from the chunk's columns.
func beyond(v int) int { return max(-v, v-15, 0) }

// P17.2: ground that is more than two columns away from the chunk changes nothing.
func TestGroundFarAway(t *testing.T) {
	for number, seed := range seeds {
		for _, c := range places {
			for i, g := range []ground{flat(60, api.Forest), rough(int64(number), 40, 60), rough(int64(number), 0, 127)} {
				x := mixed(int64(i), 10*i)
				want := applied(t, seed, c, x, g)
				other := g.copy()
				r := rand.New(rand.NewSource(int64(number)))
				for z := -16; z < 32; z++ {
					for dx := -16; dx < 32; dx++ {
						if beyond(dx) > 2 || beyond(z) > 2 {
							other.put(dx, z, r.Intn(128), r.Intn(4))
						}
					}
				}
				if got := applied(t, seed, c, x, other); len(got.Diff(want)) != 0 {
					t.Errorf("of seed %d at %v: ground that is far away changes something", seed, c)
				}
			}
		}
	}
}

// P17.2: ground that is one or two columns away changes something for some, on each side and at each corner; that of three columns away never does.
func TestGroundNearBy(t *testing.T) {
	for far := 1; far < 4; far++ {
		for side := range 9 {
			sx, sz := side%3-1, side/3-1
			if side == 4 {
				continue
			}
			changed := 0
			for seed := range uint64(150) {
				g := flat(60, api.Forest)
				want := applied(t, seed, api.At{}, chunk.New(), g)
				for z := -far; z < 16+far; z++ {
					for x := -far; x < 16+far; x++ {
						if onSide(x, sx, far) && onSide(z, sz, far) {
							g.put(x, z, 60, api.Desert)
						}
					}
				}
				changed += len(applied(t, seed, api.At{}, chunk.New(), g).Diff(want))
			}
			corner := sx != 0 && sz != 0
			if near := far == 1 || far == 2 && !corner; near && changed == 0 {
				t.Errorf("ground %d away on the side %d, %d changes nothing", far, sx, sz)
			}
			if far == 3 && changed != 0 {
				t.Errorf("ground %d away on the side %d, %d changes %d cells", far, sx, sz, changed)
			}
		}
	}
}

// onSide tells whether a number is just so far below a chunk's columns, among them, or so far above them.
func onSide(v, side, far int) bool {
	switch side {
	case -1:
		return v == -far
	case 1:
		return v == 15+far
	}
	return beyond(v) == 0
}

// P17.2: ruins that stand two columns away in x and in z have one column of theirs in the chunk, whose height is that of their own ground.
func TestRuinsAtTheCorners(t *testing.T) {
	seen := map[[2]int]int{}
	for seed := range uint64(4000) {
		for _, c := range []api.At{{}, {X: 1}, {Z: 1}, {X: 1, Z: 1}} {
			f, _, is := ruleOrigin(seed, aRuin, 0, 0)
			x, z := f.x-c.X*16, f.z-c.Z*16
			if !is || beyond(x) != 2 || beyond(z) != 2 {
				continue
			}
			seen[[2]int{x, z}]++
			for _, h := range []int{0, 50, 90, 127} {
				g := flat(60, api.Desert)
				g.put(x, z, h, api.Desert)
				cell := num.Clamp(x, 0, 15) + 16*num.Clamp(z, 0, 15)
				got := applied(t, seed, c, chunk.New(), g)
				if got.Get(h*256+cell) != api.Brick || got.Top(cell%16, cell/16) != min(h+4, 127) {
					t.Errorf("of seed %d the ruin %v on %d has no corner at %v", seed, f, h, c)
				}
			}
		}
	}
	if len(seen) != 4 {
		t.Errorf("ruins two away stand at %v", seen)
	}
}

// P17.1: the nine are in grid's order: ground of another height counts on its own side.
func TestOrderOfTheNine(t *testing.T) {
	changed := [9]int{}
	for seed := range uint64(60) {
		c := places[seed%uint64(len(places))]
		want := applied(t, seed, c, chunk.New(), flat(60, api.Forest))
		for i := range 9 {
			g := flat(60, api.Forest)
			g.heights[i] = slices.Repeat([]int{80}, 256)
			holdApply(t, seed, c, chunk.New(), g)
			changed[i] += len(applied(t, seed, c, chunk.New(), g).Diff(want))
			g = flat(60, api.Desert)
			g.bands[i] = make([]int, 256)
			holdApply(t, seed, c, chunk.New(), g)
		}
	}
	if slices.Contains(changed[:], 0) {
		t.Errorf("what changes with each of the nine: %v", changed)
	}
}

// P17.1, P17.2: the world's own ground, with its caves and ores.
func TestApplyOfTheWorld(t *testing.T) {
	built := [3]int{}
	for _, seed := range seeds {
		for _, c := range append([]api.At{{X: 2, Z: 2}, {X: 9, Z: -5}, {X: -20, Z: 14}}, places...) {
			var g ground
			var near []*chunk.Chunk
			for _, at := range grid.Near(c, 1) {
				h, b := height.Map(seed, at)
				laid, e := strata.Fill(h, b)
				if e != api.OK {
					t.Fatal(e)
				}
				near, g.heights, g.bands = append(near, laid), append(g.heights, h), append(g.bands, b)
			}
			hollow, _ := caves.Carve(seed, c, near)
			ores, e := veins.Apply(seed, c, hollow)
			if e != api.OK {
				t.Fatal(e)
			}
			for _, f := range holdApply(t, seed, c, ores, g) {
				built[f.sort]++
			}
		}
	}
	if slices.Contains(built[:], 0) {
		t.Errorf("ruins, lamps and trees of the world: %v", built)
	}
}

// R3: what is done to an answer is done to nothing else, nor is what is done to the chunk and the lists that were handed in, also where nothing was built.
func TestChunksAreTheirOwn(t *testing.T) {
	for _, g := range []ground{flat(60, api.Forest), flat(127, api.Ridge), rough(3, 40, 60)} {
		x := mixed(5, 20)
		before := x.Bytes()
		one, two := applied(t, 0, api.At{}, x, g), applied(t, 0, api.At{}, x, g)
		kept := two.Bytes()
		if one == two || !slices.Equal(one.Bytes(), kept) {
			t.Fatal("two calls answer one chunk, or chunks that are not alike")
		}
		one.Fill(0, 127, api.Lamp)
		if !slices.Equal(before, x.Bytes()) || !slices.Equal(two.Bytes(), kept) {
			t.Error("a chunk is changed with an answer")
		}
		if later := applied(t, 0, api.At{}, x, g); later == one || !slices.Equal(later.Bytes(), kept) {
			t.Error("a later call tells what was changed")
		}
		x.Fill(0, 127, api.Brick)
		for i := range g.heights {
			clear(g.heights[i])
			clear(g.bands[i])
		}
		if !slices.Equal(two.Bytes(), kept) {
			t.Error("an answer is changed with what was handed in")
		}
	}
}

// P17.1, R3: one list may be handed in nine times, and as heights and bands at once.
func TestOneListManyTimes(t *testing.T) {
	one := make([]int, 256)
	for i := range one {
		one[i] = i / 3 % 4
	}
	nine := slices.Repeat([][]int{one}, 9)
	for i, c := range places {
		holdApply(t, uint64(i), c, chunk.New(), ground{nine, nine})
		holdApply(t, uint64(i), c, chunk.New(), ground{slices.Repeat([][]int{slices.Repeat([]int{60}, 256)}, 9), nine})
	}
}

// R5: nothing hangs on what was asked before, not on what was refused either.
func TestNothingIsKept(t *testing.T) {
	var kept [][]byte
	for i, c := range places {
		kept = append(kept, applied(t, uint64(i), c, mixed(int64(i), 5), rough(int64(i), 40, 60)).Bytes())
	}
	for i := len(places) - 1; i >= 0; i-- {
		refused(t, nil, flat(60, api.Forest), "no chunk")
		applied(t, uint64(i)+1, places[i], chunk.New(), flat(70, api.Plain))
		got := applied(t, uint64(i), places[i], mixed(int64(i), 5), rough(int64(i), 40, 60))
		if !slices.Equal(got.Bytes(), kept[i]) {
			t.Errorf("the chunk at %v is told otherwise the second time", places[i])
		}
	}
}

// P17.1: another seed, and another place, have other features. Places of the same cells have the same.
func TestApplyHangsOnSeedAndPlace(t *testing.T) {
	var found [][]byte
	for _, seed := range seeds {
		for _, c := range append([]api.At{{X: 41, Z: -37}, {X: 1}, {Z: 1}}, places...) {
			x := applied(t, seed, c, chunk.New(), flat(60, api.Forest))
			got := x.Bytes()
			for _, b := range found {
				if slices.Equal(b, got) {
					t.Fatalf("of seed %d at %v: features as of another", seed, c)
				}
			}
			found = append(found, got)
			round := api.At{X: c.X + 1<<60, Z: c.Z - 1<<60}
			if again := applied(t, seed, round, chunk.New(), flat(60, api.Forest)); len(again.Diff(x)) != 0 {
				t.Errorf("of seed %d at %v: other features than at %v, whose cells are the same", seed, round, c)
			}
		}
	}
}

// P17.1, P1: all seeds and places, also those whose cells lie at the numbers' ends.
func TestApplyAnywhere(t *testing.T) {
	ends := []int{least, least + 1, -1<<59 - 1, -1 << 59, -1<<59 + 1, -65537, -2, -1, 0, 1, 65537, 1<<59 - 2, 1<<59 - 1, 1 << 59, 1<<59 + 1, greatest - 1, greatest}
	for i, x := range ends {
		for k, z := range ends {
			holdApply(t, seeds[(i+k)%len(seeds)], api.At{X: x, Z: z}, chunk.New(), rough(int64(i*k), 40, 50))
		}
	}
	r := rand.New(rand.NewSource(17))
	for range 100 {
		low := r.Intn(128)
		holdApply(t, r.Uint64(), api.At{X: int(r.Uint64()), Z: int(r.Uint64())}, mixed(r.Int63(), r.Intn(100)), rough(r.Int63(), low, low+r.Intn(128-low)))
	}
}
