package strata

import (
	"math"
	"math/rand"
	"slices"
	"testing"

	"outcrop/api"
	"outcrop/chunk"
	"outcrop/height"
)

const (
	least    = math.MinInt
	greatest = math.MaxInt
)

// ruleColumn is P14.1's five cases, told with plain numbers and apart from the program: a column that is laid from the sky down, with the bedrock over all of it at last.
func ruleColumn(h, band int) [128]int {
	var column [128]int
	for i := 127; i > h; i-- {
		if i < 45 {
			column[i] = 5
		}
	}
	for i := 0; i < h; i++ {
		column[i] = 1
	}
	switch {
	case band == 2:
		column[h] = 4
	case band == 3 && h < 71:
		column[h] = 6
	case band == 3:
		column[h] = 1
	case h < 44:
		column[h] = 2
	default:
		column[h] = 3
	}
	for _, i := range []int{h - 1, h - 2, h - 3} {
		if i >= 0 {
			column[i] = [4]int{2, 2, 4, 1}[band]
		}
	}
	column[0] = 15
	return column
}

// cell is one, with its block.
type cell struct{ h, band, y, want int }

// holdCells holds cells against what is asked of them.
func holdCells(t *testing.T, cells []cell) {
	t.Helper()
	for _, c := range cells {
		if got := At(c.h, c.band, c.y); got != c.want {
			t.Errorf("At(%d, %d, %d) is %d, not %d", c.h, c.band, c.y, got, c.want)
		}
	}
}

// P14.1: the chapter's examples.
func TestExamples(t *testing.T) {
	holdCells(t, []cell{
		{60, 0, 0, 15}, {60, 0, 56, 1}, {60, 0, 58, 2}, {60, 0, 60, 3}, {60, 0, 61, 0},
		{30, 2, 30, 4}, {30, 2, 44, 5}, {30, 2, 45, 0},
	})
}

// P14.1: every height, every band and every cell of a column.
func TestAtEverywhere(t *testing.T) {
	for h := range 128 {
		for band := range 4 {
			for y, want := range ruleColumn(h, band) {
				holdCells(t, []cell{{h, band, y, want}})
			}
		}
	}
}

// P14.1: bedrock at 0, also where that is the top, or below it by at most 3.
func TestBedrock(t *testing.T) {
	for _, h := range []int{0, 1, 2, 3, 4, 20, 43, 44, 127} {
		for band := range 4 {
			holdCells(t, []cell{{h, band, 0, api.Bedrock}})
		}
	}
}

// P14.1: over the ground water up to 44, air above it.
func TestOverTheGround(t *testing.T) {
	for band := range 4 {
		holdCells(t, []cell{
			{0, band, 1, api.Water}, {0, band, 44, api.Water}, {0, band, 45, api.Air}, {0, band, 127, api.Air},
			{42, band, 43, api.Water}, {42, band, 44, api.Water}, {42, band, 45, api.Air},
			{43, band, 44, api.Water}, {43, band, 45, api.Air},
			{44, band, 45, api.Air}, {45, band, 46, api.Air}, {126, band, 127, api.Air},
		})
	}
}

// P14.1: the top of each band, on both sides of 44 and of 70, as low and as high as it may be.
func TestTops(t *testing.T) {
	holdCells(t, []cell{
		{1, api.Plain, 1, api.Dirt}, {43, api.Plain, 43, api.Dirt}, {44, api.Plain, 44, api.Grass}, {45, api.Plain, 45, api.Grass},
		{70, api.Plain, 70, api.Grass}, {71, api.Plain, 71, api.Grass}, {127, api.Plain, 127, api.Grass},
		{1, api.Forest, 1, api.Dirt}, {43, api.Forest, 43, api.Dirt}, {44, api.Forest, 44, api.Grass}, {45, api.Forest, 45, api.Grass},
		{70, api.Forest, 70, api.Grass}, {71, api.Forest, 71, api.Grass}, {127, api.Forest, 127, api.Grass},
		{1, api.Desert, 1, api.Sand}, {43, api.Desert, 43, api.Sand}, {44, api.Desert, 44, api.Sand}, {45, api.Desert, 45, api.Sand},
		{70, api.Desert, 70, api.Sand}, {71, api.Desert, 71, api.Sand}, {127, api.Desert, 127, api.Sand},
		{1, api.Ridge, 1, api.Gravel}, {43, api.Ridge, 43, api.Gravel}, {44, api.Ridge, 44, api.Gravel}, {45, api.Ridge, 45, api.Gravel},
		{70, api.Ridge, 70, api.Gravel}, {71, api.Ridge, 71, api.Stone}, {72, api.Ridge, 72, api.Stone}, {127, api.Ridge, 127, api.Stone},
	})
}

// P14.1: three cells below the top are the band's, those below these stone; where the ground is low they end at the bedrock.
func TestBelowTheTop(t *testing.T) {
	below := [4]int{api.Dirt, api.Dirt, api.Sand, api.Stone}
	for band, want := range below {
		for _, h := range []int{5, 20, 43, 44, 45, 70, 71, 74, 127} {
			holdCells(t, []cell{
				{h, band, h - 1, want}, {h, band, h - 2, want}, {h, band, h - 3, want},
				{h, band, h - 4, api.Stone}, {h, band, 1, api.Stone},
			})
		}
		holdCells(t, []cell{
			{4, band, 3, want}, {4, band, 1, want}, {4, band, 0, api.Bedrock},
			{3, band, 2, want}, {3, band, 1, want}, {3, band, 0, api.Bedrock},
			{2, band, 1, want}, {1, band, 0, api.Bedrock},
		})
	}
}

// P14.1, P1: air of a height, a band or a cell that may not be, just outside and at the ends of the numbers, also where others are wrong too.
func TestAtOfWrongNumbers(t *testing.T) {
	wrongTall := []int{-1, -2, 128, 129, least, least + 1, least + 2, least + 3, greatest - 3, greatest - 1, greatest, 1 << 32, -1 << 32}
	wrongBand := []int{-1, -2, 4, 5, least, least + 1, greatest - 1, greatest, 1 << 32, -1 << 32}
	right := []int{0, 1, 2, 3, 4, 43, 44, 45, 70, 71, 126, 127}
	for _, y := range append(slices.Clone(right), wrongTall...) {
		for _, h := range wrongTall {
			for _, band := range append([]int{0, 1, 2, 3}, wrongBand...) {
				holdCells(t, []cell{{h, band, y, api.Air}, {y, band, h, api.Air}})
			}
		}
		for _, h := range right {
			for _, band := range wrongBand {
				holdCells(t, []cell{{h, band, y, api.Air}})
			}
		}
	}
}

// flat are two lists for a chunk whose columns are all alike.
func flat(h, band int) ([]int, []int) {
	return slices.Repeat([]int{h}, 256), slices.Repeat([]int{band}, 256)
}

// refused holds two lists against ErrArg and no chunk.
func refused(t *testing.T, heights, bands []int, why string) {
	t.Helper()
	keptHeights, keptBands := slices.Clone(heights), slices.Clone(bands)
	if c, e := Fill(heights, bands); e != api.ErrArg || c != nil {
		t.Errorf("%s: Fill answers %v and whether it has a chunk: %v", why, e, c != nil)
	}
	if !slices.Equal(heights, keptHeights) || !slices.Equal(bands, keptBands) {
		t.Errorf("%s: Fill changes what is handed in", why)
	}
}

// P14.2: ErrArg and no chunk, if the lists are not 256 each.
func TestFillOfOtherLengths(t *testing.T) {
	many := []int{0, 1, 16, 255, 256, 257, 512, 32768}
	for _, h := range many {
		for _, b := range many {
			heights, bands := make([]int, h, h+256), make([]int, b, b+256)
			if h != 256 || b != 256 {
				refused(t, heights, bands, "another length")
			} else if c, e := Fill(heights, bands); e != api.OK || c == nil {
				t.Errorf("Fill of 256 each answers %v", e)
			}
		}
	}
	heights, bands := flat(60, 0)
	refused(t, nil, nil, "no lists")
	refused(t, nil, bands, "no heights")
	refused(t, heights, nil, "no bands")
}

// P14.2: ErrArg and no chunk, if one height or one band may not be, wherever it is; none, if it is one that just may be.
func TestFillOfWrongNumbers(t *testing.T) {
	for _, i := range []int{0, 1, 15, 16, 100, 128, 240, 254, 255} {
		for _, h := range []int{-1, 128, least, greatest, 1 << 32} {
			heights, bands := flat(60, 0)
			heights[i] = h
			refused(t, heights, bands, "a wrong height")
			bands[255-i] = 4
			refused(t, heights, bands, "a wrong height and a wrong band")
		}
		for _, b := range []int{-1, 4, least, greatest, 1 << 32} {
			heights, bands := flat(60, 0)
			bands[i] = b
			refused(t, heights, bands, "a wrong band")
		}
		for _, h := range []int{0, 127} {
			for _, b := range []int{0, 3} {
				heights, bands := flat(60, 1)
				heights[i], bands[i] = h, b
				holdFill(t, heights, bands)
			}
		}
	}
}

// holdFill holds each cell of a chunk against its column's height and band, and answers the chunk.
func holdFill(t *testing.T, heights, bands []int) *chunk.Chunk {
	t.Helper()
	keptHeights, keptBands := slices.Clone(heights), slices.Clone(bands)
	c, e := Fill(heights, bands)
	if e != api.OK || c == nil {
		t.Fatalf("Fill answers %v and whether it has a chunk: %v", e, c != nil)
	}
	if !slices.Equal(heights, keptHeights) || !slices.Equal(bands, keptBands) {
		t.Fatal("Fill changes what is handed in")
	}
	cells := c.Bytes()
	for x := range 16 {
		for z := range 16 {
			h, band := keptHeights[z*16+x], keptBands[z*16+x]
			for y, want := range ruleColumn(h, band) {
				got := int(cells[y*256+z*16+x])
				if got != want || got != At(h, band, y) {
					t.Fatalf("the cell %d, %d, %d over %d in the band %d is %d, not %d", x, y, z, h, band, got, want)
				}
			}
		}
	}
	return c
}

// mixed are lists of any heights and any bands, by a number.
func mixed(seed int64) ([]int, []int) {
	r := rand.New(rand.NewSource(seed))
	heights, bands := make([]int, 256), make([]int, 256)
	for i := range heights {
		heights[i], bands[i] = r.Intn(128), r.Intn(4)
	}
	return heights, bands
}

// holdMixed holds the chunk of a mixture.
func holdMixed(t *testing.T, seed int64) *chunk.Chunk {
	t.Helper()
	heights, bands := mixed(seed)
	return holdFill(t, heights, bands)
}

// P14.2: chunks of columns that are all alike, of every height and band.
func TestFillOfFlatLand(t *testing.T) {
	for h := range 128 {
		for band := range 4 {
			heights, bands := flat(h, band)
			holdFill(t, heights, bands)
		}
	}
}

// P14.2: chunks of columns that are not alike: all heights rising, all heights falling, and mixtures.
func TestFillOfOtherLand(t *testing.T) {
	heights, bands := make([]int, 256), make([]int, 256)
	for i := range heights {
		heights[i], bands[i] = i/2, i%4
	}
	holdFill(t, heights, bands)
	for i := range heights {
		heights[i], bands[i] = 127-i%128, i/64
	}
	holdFill(t, heights, bands)
	for seed := range int64(20) {
		holdMixed(t, seed)
	}
}

// P14.2: chunks of the land that seeds have.
func TestFillOfSeeds(t *testing.T) {
	for _, seed := range []uint64{0, 7, math.MaxUint64} {
		for _, at := range []api.At{{}, {X: -1, Z: 3}, {X: 37, Z: -41}, {X: greatest, Z: least}} {
			heights, bands := height.Map(seed, at)
			c := holdFill(t, heights, bands)
			for i, h := range heights {
				if got := c.Top(i%16, i/16); got != max(h, 44) {
					t.Fatalf("the top of the column %d over %d is %d", i, h, got)
				}
			}
		}
	}
}

// P14.2: the place of a column is z 16 + x: one that stands out does so there alone.
func TestFillPlaces(t *testing.T) {
	for _, p := range [][2]int{{0, 0}, {15, 0}, {0, 15}, {15, 15}, {3, 9}, {9, 3}} {
		heights, bands := flat(60, api.Plain)
		heights[p[1]*16+p[0]], bands[p[1]*16+p[0]] = 100, api.Desert
		c := holdFill(t, heights, bands)
		for x := range 16 {
			for z := range 16 {
				want, block := 60, api.Grass
				if x == p[0] && z == p[1] {
					want, block = 100, api.Sand
				}
				if top := c.Top(x, z); top != want || c.Get(top*256+z*16+x) != block {
					t.Fatalf("with %v standing out, the top of %d, %d is %d", p, x, z, top)
				}
			}
		}
	}
}

// P14.2, R3: two calls answer two chunks of their own, and neither hangs on the lists any more.
func TestChunksAreTheirOwn(t *testing.T) {
	heights, bands := mixed(1)
	one, two := holdFill(t, heights, bands), holdFill(t, heights, bands)
	kept := two.Bytes()
	if one == two || !slices.Equal(one.Bytes(), kept) {
		t.Fatal("two calls answer one chunk, or chunks that are not alike")
	}
	one.Fill(0, 127, api.Lamp)
	for i := range heights {
		heights[i], bands[i] = 0, 0
	}
	if !slices.Equal(two.Bytes(), kept) {
		t.Error("a chunk is changed with another one, or with the lists")
	}
	if later := holdFill(t, heights, bands); later == one || later == two {
		t.Error("a later call answers a chunk that was answered before")
	}
	if later := holdMixed(t, 1); !slices.Equal(later.Bytes(), kept) {
		t.Error("a later call tells what was changed")
	}
}

// P14.2, R3: one list may be handed in as both, and lists may lie in greater ones.
func TestFillOfSharedLists(t *testing.T) {
	list := make([]int, 256)
	for i := range list {
		list[i] = i % 4
	}
	holdFill(t, list, list)
	heights, bands := mixed(2)
	both := append(append([]int{-1}, heights...), append(bands, -1)...)
	holdFill(t, both[1:257], both[257:513])
	if both[0] != -1 || both[513] != -1 {
		t.Error("numbers beside the lists are changed")
	}
}

// R5: nothing hangs on what was asked before, not on what was refused either.
func TestNothingIsKept(t *testing.T) {
	var kept [][]byte
	for seed := range int64(8) {
		kept = append(kept, holdMixed(t, seed).Bytes())
	}
	for seed := int64(7); seed >= 0; seed-- {
		refused(t, nil, nil, "no lists")
		At(least, greatest, least)
		if !slices.Equal(holdMixed(t, seed).Bytes(), kept[seed]) {
			t.Errorf("the mixture %d is told otherwise the second time", seed)
		}
	}
}
