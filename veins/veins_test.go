package veins

import (
	"math"
	"math/rand"
	"slices"
	"testing"

	"outcrop/api"
	"outcrop/caves"
	"outcrop/chunk"
	"outcrop/grid"
	"outcrop/height"
	"outcrop/num"
	"outcrop/rng"
	"outcrop/strata"
)

const (
	least    = math.MinInt
	greatest = math.MaxInt
)

// seeds and places are what most chunks are of: on both sides of 0, at the world's ends, and where numbers wrap round.
var (
	seeds  = []uint64{0, 1, 7, math.MaxUint64}
	places = []api.At{{}, {X: -1, Z: -1}, {X: 1, Z: -1}, {X: -37, Z: 41}, {X: 65536, Z: -65536}, {X: greatest, Z: least}, {X: 1 << 59, Z: 1<<59 - 1}, {X: 1<<59 - 1, Z: -1 << 59}}
)

// told is a vein as P16.1 has it; its ore is 0 where there is none.
type told struct {
	ore, x, y, z, reach int
}

// ruleVein is P16.1's rule, told with plain numbers and apart from the program.
func ruleVein(seed uint64, ox, oy, oz int) told {
	h := rng.Hash(seed, 30, ox, oy, oz)
	if rng.Below(h, 100) > 39 {
		return told{}
	}
	ores := [16]int{7, 7, 7, 7, 7, 7, 7, 7, 7, 8, 8, 8, 8, 8, 9, 9}
	return told{
		ore:   ores[h/256%16],
		x:     ox*8 + int(h/65536%8),
		y:     oy*8 + int(h/524288%8),
		z:     oz*8 + int(h/4194304%8),
		reach: int(h/33554432%2) + 1,
	}
}

// far is how far a cell is from a vein's middle, in the three ways together. The differences are of 64 bits, as the coordinates are.
func (v told) far(p api.Pos) int {
	n := 0
	for _, d := range [3]int{p.X - v.x, p.Y - v.y, p.Z - v.z} {
		if d < 0 {
			d = -d
		}
		n += d
	}
	return n
}

// ruleAll are the veins of the 27 origins about a cell that tell of it, in their order. A number is divided by 8 downwards when its lowest three bits fall off.
func ruleAll(seed uint64, p api.Pos) []told {
	var all []told
	for i := range 27 {
		v := ruleVein(seed, p.X>>3+i%3-1, p.Y>>3+i/9-1, p.Z>>3+i/3%3-1)
		if v.ore != 0 && v.far(p) <= v.reach {
			all = append(all, v)
		}
	}
	return all
}

// ruleOf is P16.2's rule.
func ruleOf(seed uint64, p api.Pos) int {
	for _, v := range ruleAll(seed, p) {
		return v.ore
	}
	return 0
}

// holdOf holds Of of a cell against the rule.
func holdOf(t *testing.T, seed uint64, p api.Pos) int {
	t.Helper()
	got := Of(seed, p)
	if want := ruleOf(seed, p); got != want {
		t.Fatalf("Of(%d, %v) is %d, not %d", seed, p, got, want)
	}
	return got
}

// box goes over cells, so many each way from a corner on, by rising y, then z, then x. Behind the greatest number comes the least one.
func box(corner api.Pos, many int, do func(api.Pos)) {
	for i := range many * many * many {
		do(api.Pos{X: corner.X + i%many, Y: corner.Y + i/many/many, Z: corner.Z + i/many%many})
	}
}

// cell is the cell of a chunk at a place.
func cell(c api.At, i int) api.Pos {
	return api.Pos{X: c.X*16 + i%16, Y: i / 256, Z: c.Z*16 + i/16%16}
}

// applied is what Apply makes of a chunk that may be. What is handed in is to stay as it was, and the answer is to be another one.
func applied(t *testing.T, seed uint64, c api.At, x *chunk.Chunk) *chunk.Chunk {
	t.Helper()
	before := x.Bytes()
	got, e := Apply(seed, c, x)
	if e != api.OK || got == nil {
		t.Fatalf("of seed %d at %v: Apply answers %v and whether it has a chunk: %v", seed, c, e, got != nil)
	}
	if !slices.Equal(before, x.Bytes()) {
		t.Fatalf("of seed %d at %v: Apply changes what is handed in", seed, c)
	}
	if got == x {
		t.Fatalf("of seed %d at %v: Apply answers the chunk that was handed in", seed, c)
	}
	return got
}

// holdApply holds each cell of a chunk against the rule and against Of, and tells how many became ore.
func holdApply(t *testing.T, seed uint64, c api.At, x *chunk.Chunk) int {
	t.Helper()
	got, ores := applied(t, seed, c, x), 0
	for i := range api.Cells {
		p, old, want := cell(c, i), x.Get(i), x.Get(i)
		if old == api.Stone {
			if k := holdOf(t, seed, p); k != 0 {
				want = k
				ores++
			}
		}
		if got.Get(i) != want {
			t.Fatalf("of seed %d at %v: the cell %v was %d and is %d, not %d", seed, c, p, old, got.Get(i), want)
		}
	}
	return ores
}

// ground is the strata of a seed, and the same with their caves.
func ground(t *testing.T, seed uint64, c api.At) (laid, hollow *chunk.Chunk) {
	t.Helper()
	var near []*chunk.Chunk
	for _, at := range grid.Near(c, 1) {
		x, e := strata.Fill(height.Map(seed, at))
		if e != api.OK {
			t.Fatal(e)
		}
		near = append(near, x)
	}
	hollow, e := caves.Carve(seed, c, near)
	if e != api.OK {
		t.Fatal(e)
	}
	return near[4], hollow
}

// mixed is stone, of which so many cells of a hundred are of any other kind.
func mixed(number int64, percent int) *chunk.Chunk {
	r := rand.New(rand.NewSource(number))
	x := chunk.Full(api.Stone)
	for i := range api.Cells {
		if r.Intn(100) < percent {
			x.Set(i, []int{0, 2, 3, 4, 5, 6, 7, 8, 9, 10, 11, 12, 13, 14, 15, 16}[r.Intn(16)])
		}
	}
	return x
}

// P16.3: the chapter's examples.
func TestExamples(t *testing.T) {
	for _, seed := range seeds {
		for _, c := range places {
			if got := applied(t, seed, c, chunk.New()); len(got.Diff(chunk.New())) != 0 {
				t.Errorf("of seed %d at %v: air becomes something", seed, c)
			}
			if got := applied(t, seed, c, chunk.Full(api.Stone)); got.Counts()[7] == 0 {
				t.Errorf("of seed %d at %v: no cell of stone is 7", seed, c)
			}
		}
	}
}

// holdVein holds the vein of an origin, as Of tells it, against the rule: all cells about its middle, also those just beyond its reach. Where there is none, nothing but the veins about it is told within the origin, which the rule knows too.
func holdVein(t *testing.T, seed uint64, ox, oy, oz int) told {
	t.Helper()
	want := ruleVein(seed, ox, oy, oz)
	got, is := origin(seed, ox, oy, oz)
	if is != (want.ore != 0) || got != (vein{want.ore, api.Pos{X: want.x, Y: want.y, Z: want.z}, want.reach}) {
		t.Fatalf("of seed %d the origin %d, %d, %d has %v and %v, not %v", seed, ox, oy, oz, got, is, want)
	}
	corner, many := api.Pos{X: want.x - 3, Y: want.y - 3, Z: want.z - 3}, 7
	if want.ore == 0 {
		corner, many = api.Pos{X: ox * 8, Y: oy * 8, Z: oz * 8}, 8
	}
	box(corner, many, func(p api.Pos) { holdOf(t, seed, p) })
	return want
}

// P16.1: origins on both sides of 0 and far away, at each of which there is a vein or none, of each ore's number, at each step and of each reach.
func TestVeinsOfOrigins(t *testing.T) {
	var numbers [16]int
	var steps [3][8]int
	var reaches [3]int
	var veins, nones, all int
	for i, corner := range []api.Pos{{X: -2, Y: -2, Z: -2}, {X: 1 << 17, Y: 7, Z: -1 << 17}, {X: -1 << 40, Y: -1 << 30, Z: 1 << 50}, {X: 1<<60 - 3, Y: 3, Z: -1<<60 - 1}, {X: -1<<60 - 1, Y: 1<<60 - 3, Z: 5}} {
		box(corner, 5, func(o api.Pos) {
			seed := seeds[i%len(seeds)]
			all++
			v := holdVein(t, seed, o.X, o.Y, o.Z)
			if v.ore == 0 {
				nones++
				return
			}
			veins++
			numbers[rng.Hash(seed, 30, o.X, o.Y, o.Z)>>8&15]++
			steps[0][v.x&7]++
			steps[1][v.y&7]++
			steps[2][v.z&7]++
			reaches[v.reach]++
		})
	}
	if veins < all*30/100 || nones < all*50/100 {
		t.Errorf("of %d origins %d have a vein and %d none", all, veins, nones)
	}
	if slices.Contains(numbers[:], 0) || reaches[1] == 0 || reaches[2] == 0 {
		t.Errorf("some are not seen: %v, %v", numbers, reaches)
	}
	for _, s := range steps {
		if slices.Contains(s[:], 0) {
			t.Errorf("some steps are not seen: %v", steps)
		}
	}
}

// P16.1: origins of seed 3 that are just veined and just not, and ores on both sides of 9 and of 14, worked out in another language.
func TestVeinsKnown(t *testing.T) {
	for _, x := range []struct {
		o    api.Pos
		want vein
	}{
		{api.Pos{X: -40, Y: 3, Z: -18}, vein{7, api.Pos{X: -316, Y: 26, Z: -139}, 2}},   // 38 of a hundred
		{api.Pos{X: -40, Y: -1, Z: 6}, vein{8, api.Pos{X: -320, Y: -1, Z: 49}, 2}},      // 39
		{api.Pos{X: -40, Y: -2, Z: -23}, vein{}},                                        // 40
		{api.Pos{X: -40, Y: -1, Z: -39}, vein{}},                                        // 41
		{api.Pos{X: -40, Y: -2, Z: -37}, vein{7, api.Pos{X: -317, Y: -11, Z: -291}, 1}}, // the number 0
		{api.Pos{X: -40, Y: -2, Z: 35}, vein{7, api.Pos{X: -313, Y: -16, Z: 280}, 2}},   // 7
		{api.Pos{X: -40, Y: -2, Z: -29}, vein{7, api.Pos{X: -317, Y: -12, Z: -228}, 1}}, // 8
		{api.Pos{X: -40, Y: -2, Z: -21}, vein{8, api.Pos{X: -314, Y: -9, Z: -167}, 2}},  // 9
		{api.Pos{X: -40, Y: -2, Z: -9}, vein{8, api.Pos{X: -318, Y: -16, Z: -68}, 2}},   // 10
		{api.Pos{X: -40, Y: -1, Z: -40}, vein{8, api.Pos{X: -316, Y: -2, Z: -318}, 1}},  // 12
		{api.Pos{X: -40, Y: -2, Z: 10}, vein{8, api.Pos{X: -320, Y: -11, Z: 87}, 1}},    // 13
		{api.Pos{X: -40, Y: -2, Z: -30}, vein{9, api.Pos{X: -316, Y: -12, Z: -234}, 2}}, // 14
		{api.Pos{X: -40, Y: -2, Z: -26}, vein{9, api.Pos{X: -317, Y: -14, Z: -201}, 2}}, // 15
	} {
		got, is := origin(3, x.o.X, x.o.Y, x.o.Z)
		if got != x.want || is != (x.want.ore != 0) {
			t.Errorf("the origin %v has %v and %v, not %v", x.o, got, is, x.want)
		}
		if is && Of(3, x.want.middle) != x.want.ore {
			t.Errorf("Of at the middle of %v is %d", x.want, Of(3, x.want.middle))
		}
		holdVein(t, 3, x.o.X, x.o.Y, x.o.Z)
	}
}

// P16.1, P16.2: a vein that lies alone, as Of tells it: a middle with the six cells about it, or 25 cells in all.
func TestVeinsAlone(t *testing.T) {
	shapes := map[int]int{}
	for i := range 600 {
		v := ruleVein(7, i%20-10, i/200, i/20%10-5)
		cells, alone := 0, v.ore != 0
		box(api.Pos{X: v.x - 4, Y: v.y - 4, Z: v.z - 4}, 9, func(p api.Pos) {
			alone = alone && !slices.ContainsFunc(ruleAll(7, p), func(w told) bool { return w != v })
			switch {
			case Of(7, p) == 0:
			case Of(7, p) == v.ore:
				cells++
			default:
				alone = false
			}
		})
		if !alone {
			continue
		}
		shapes[v.reach]++
		if want := []int{0, 7, 25}[v.reach]; cells != want {
			t.Errorf("the vein %v has %d cells, not %d", v, cells, want)
		}
	}
	if shapes[1] == 0 || shapes[2] == 0 {
		t.Errorf("alone are %v", shapes)
	}
}

// P16.2: boxes of 24 cells each way, worked out in another language: how many cells have each ore, and the sum of all.
func TestOfKnown(t *testing.T) {
	for _, x := range []struct {
		seed             uint64
		corner           api.Pos
		coal, iron, gold int
		sum              uint32
	}{
		{7, api.Pos{X: -12, Y: -12, Z: -12}, 53, 43, 33, 0x203ca7fd},
		{math.MaxUint64, api.Pos{X: 100, Y: 50, Z: -1000}, 127, 13, 0, 0x22c2d502},
		{0, api.Pos{X: -1<<40 - 5, Y: 3, Z: 1<<40 + 5}, 76, 26, 0, 0x19ee33dd},
		{2, api.Pos{X: greatest - 23, Y: greatest - 23, Z: greatest - 23}, 70, 95, 0, 0xf1a2ebb3},
		{2, api.Pos{X: least, Y: least, Z: least}, 86, 63, 31, 0x50166640},
	} {
		var b []byte
		var counts [10]int
		box(x.corner, 24, func(p api.Pos) {
			k := Of(x.seed, p)
			b = append(b, byte(k))
			counts[k]++
		})
		if counts[7] != x.coal || counts[8] != x.iron || counts[9] != x.gold || num.Sum(b) != x.sum {
			t.Errorf("of seed %d from %v: %v and the sum %x", x.seed, x.corner, counts, num.Sum(b))
		}
	}
}

// P16.2: the first origin counts where two veins of other ores tell of one cell, whichever way they lie beside each other; worked out in another language.
func TestOfTwoVeins(t *testing.T) {
	for _, x := range []struct {
		seed          uint64
		p             api.Pos
		first, second int
	}{
		{0, api.Pos{X: 15, Y: 20, Z: 42}, 9, 8},   // the second one is one further in X
		{0, api.Pos{X: 51, Y: 29, Z: -9}, 7, 9},   // in Z
		{1, api.Pos{X: -29, Y: 24, Z: -12}, 7, 9}, // in Y
		{2, api.Pos{X: 15, Y: -10, Z: -18}, 8, 7}, // in Z, and one back in X
		{5, api.Pos{X: -8, Y: 55, Z: 43}, 7, 9},   // in Y, and one back in X
		{7, api.Pos{X: 28, Y: -1, Z: -17}, 8, 7},  // in Y, and one back in Z
		{0, api.Pos{X: 11, Y: 54, Z: -32}, 8, 7},  // in Y and in Z
		{23, api.Pos{X: 31, Y: 26, Z: -8}, 7, 8},  // in X and in Z
	} {
		if got := Of(x.seed, x.p); got != x.first {
			t.Errorf("Of(%d, %v) is %d, not %d", x.seed, x.p, got, x.first)
		}
		all := ruleAll(x.seed, x.p)
		if len(all) != 2 || all[0].ore != x.first || all[1].ore != x.second {
			t.Errorf("of seed %d %v has %v", x.seed, x.p, all)
		}
		c, i := grid.Chunk(x.p), grid.Index(x.p)
		if got := applied(t, x.seed, c, chunk.Full(api.Stone)); i >= 0 && got.Get(i) != x.first {
			t.Errorf("Apply of seed %d makes %d of %v, not %d", x.seed, got.Get(i), x.p, x.first)
		}
	}
}

// P16.2: many cells, of which some have two veins of other ores.
func TestOfManyCells(t *testing.T) {
	ores, crossed := [10]int{}, 0
	for i, corner := range []api.Pos{{X: -20, Y: -20, Z: -20}, {X: 1048560, Y: 100, Z: -1048590}, {X: -1<<40 - 20, Y: 0, Z: 1<<40 - 20}, {X: -70, Y: 1 << 60, Z: 300}, {X: 300, Y: -1 << 60, Z: -70}} {
		for _, seed := range []uint64{seeds[i%4], uint64(i) + 100} {
			box(corner, 40, func(p api.Pos) {
				ores[holdOf(t, seed, p)]++
				if all := ruleAll(seed, p); len(all) > 1 && all[0].ore != all[1].ore {
					crossed++
				}
			})
		}
	}
	if ores[0] == 0 || ores[7] == 0 || ores[8] == 0 || ores[9] == 0 || crossed == 0 {
		t.Errorf("the ores are %v, and %d are crossed", ores, crossed)
	}
}

// P16.2: cells at the borders of origins, whose veins lie in other origins than they do.
func TestOfAcrossBorders(t *testing.T) {
	var across [27]int
	for i := range 20 * 20 * 20 {
		ox, oy, oz := i%20-10, i/400-10, i/20%20-10
		v := ruleVein(1, ox, oy, oz)
		if v.ore == 0 {
			continue
		}
		box(api.Pos{X: v.x - 2, Y: v.y - 2, Z: v.z - 2}, 5, func(p api.Pos) {
			side := p.X>>3 - ox + 1 + 3*(p.Z>>3-oz+1) + 9*(p.Y>>3-oy+1)
			if holdOf(t, 1, p) == v.ore && v.far(p) <= v.reach {
				across[side]++
			}
		})
	}
	for side, n := range across {
		corner := side%3 != 1 && side/3%3 != 1 && side/9 != 1
		if n == 0 && !corner {
			t.Errorf("no vein reaches the side %d", side)
		}
		if n != 0 && corner {
			t.Errorf("a vein reaches three ways together to the corner %d", side)
		}
	}
}

// P16.2, R4: cells at the ends of the numbers, of which some have a vein from beyond the end, worked out in another language.
func TestOfAtTheEndsKnown(t *testing.T) {
	for _, x := range []struct {
		seed uint64
		p    api.Pos
		want int
	}{
		{17, api.Pos{X: 3, Y: least, Z: 9}, 9}, // from beyond
		{50, api.Pos{X: least, Y: least, Z: least}, 7},
		{92, api.Pos{X: greatest, Y: least, Z: greatest}, 7},
		{130, api.Pos{Z: greatest}, 9},
		{187, api.Pos{X: least, Y: 5, Z: 5}, 8},
		{206, api.Pos{X: greatest, Y: 5, Z: 5}, 8},
		{321, api.Pos{X: least, Y: greatest}, 9},
		{9, api.Pos{X: greatest, Y: greatest, Z: greatest}, 8}, // of origins that are whole
		{14, api.Pos{X: greatest, Y: 5, Z: 5}, 7},
		{22, api.Pos{X: least, Y: 5, Z: 5}, 8},
		{24, api.Pos{Z: least}, 8},
		{35, api.Pos{X: least, Y: greatest}, 7},
		{0, api.Pos{X: greatest, Y: 5, Z: 5}, 0},
		{0, api.Pos{X: least, Y: least, Z: least}, 0},
	} {
		if got := Of(x.seed, x.p); got != x.want {
			t.Errorf("Of(%d, %v) is %d, not %d", x.seed, x.p, got, x.want)
		}
	}
}

// P16.2, P1, R4: cells at all ends of the numbers, and cells anywhere.
func TestOfAnywhere(t *testing.T) {
	ends := []int{least, least + 1, least + 7, least + 8, -1<<40 - 1, -1048577, -9, -8, -1, 0, 1, 7, 8, 127, 128, 1048577, 1 << 40, greatest - 8, greatest - 7, greatest - 1, greatest}
	for _, seed := range seeds {
		for _, x := range ends {
			for _, y := range ends {
				for _, z := range ends {
					holdOf(t, seed, api.Pos{X: x, Y: y, Z: z})
				}
			}
		}
	}
	r := rand.New(rand.NewSource(1))
	for range 50000 {
		holdOf(t, r.Uint64(), api.Pos{X: int(r.Uint64()), Y: int(r.Uint64()), Z: int(r.Uint64())})
	}
}

// P16.3, P1: ErrArg and no chunk, if there is none.
func TestApplyOfNil(t *testing.T) {
	for _, seed := range seeds {
		for _, c := range places {
			if got, e := Apply(seed, c, nil); e != api.ErrArg || got != nil {
				t.Errorf("of seed %d at %v: Apply of nil answers %v and whether it has a chunk: %v", seed, c, e, got != nil)
			}
		}
	}
}

// P16.3: ores in stone, worked out apart from this program and in another language: how many cells are of each, and the sum of all.
func TestApplyKnown(t *testing.T) {
	for _, x := range []struct {
		seed             uint64
		c                api.At
		coal, iron, gold int
		sum              uint32
	}{
		{1, api.At{}, 166, 178, 25, 0x1c98c293},
		{7, api.At{X: -1, Z: 3}, 177, 118, 43, 0xde57d475},
		{5, api.At{X: 2, Z: -3}, 238, 128, 7, 0xdff93ef1},
		{42, api.At{X: -37, Z: 41}, 258, 100, 46, 0xb3e8aea5},
		{math.MaxUint64, api.At{X: 65536, Z: -65536}, 324, 144, 82, 0x4fc1f5bd},
		{3, api.At{X: greatest, Z: least}, 225, 175, 64, 0x7111e646},
		{0, api.At{X: 1 << 59, Z: 1<<59 - 1}, 322, 58, 57, 0xd5d9afaf},
		{9, api.At{X: 1<<59 - 1, Z: -1 << 59}, 200, 104, 60, 0x426246e7},
	} {
		got := applied(t, x.seed, x.c, chunk.Full(api.Stone))
		n, sum := got.Counts(), num.Sum(got.Bytes())
		if n[7] != x.coal || n[8] != x.iron || n[9] != x.gold || n[1]+n[7]+n[8]+n[9] != api.Cells || sum != x.sum {
			t.Errorf("of seed %d at %v: %d of coal, %d of iron, %d of gold and the sum %x", x.seed, x.c, n[7], n[8], n[9], sum)
		}
	}
}

// P16.3: all stone.
func TestApplyOfStone(t *testing.T) {
	for _, seed := range seeds {
		for _, c := range places {
			if holdApply(t, seed, c, chunk.Full(api.Stone)) == 0 {
				t.Errorf("of seed %d at %v: stone has no ores", seed, c)
			}
		}
	}
}

// P16.3: the strata of seeds, without and with their caves.
func TestApplyOfStrata(t *testing.T) {
	for _, seed := range seeds {
		for _, c := range places {
			laid, hollow := ground(t, seed, c)
			whole, left := holdApply(t, seed, c, laid), holdApply(t, seed, c, hollow)
			if left == 0 || left > whole {
				t.Errorf("of seed %d at %v: %d ores in the strata, %d beside their caves", seed, c, whole, left)
			}
		}
	}
}

// P16.3, P16.4: stone with few and with many pieces of all other kinds, ores among them.
func TestApplyOfMixtures(t *testing.T) {
	for i, percent := range []int{1, 5, 20, 50, 80, 99, 100} {
		for k := range 2 {
			holdApply(t, seeds[(i+k)%len(seeds)], places[(i+3*k)%len(places)], mixed(int64(10*i+k), percent))
		}
	}
}

// P16.3, P16.4: chunks of any kind but stone stay as they are.
func TestApplyOfOtherKinds(t *testing.T) {
	for k := range api.None + 1 {
		ores := holdApply(t, 1, places[k%len(places)], chunk.Full(k))
		if (ores > 0) != (k == api.Stone) {
			t.Errorf("of the kind %d there become %d ores", k, ores)
		}
	}
}

// P16.3: the lowest and the highest layer, and each side of a chunk alone.
func TestApplyAtTheSides(t *testing.T) {
	for i, keep := range []func(x, y, z int) bool{
		func(x, y, z int) bool { return y == 0 },
		func(x, y, z int) bool { return y == 127 },
		func(x, y, z int) bool { return x == 0 },
		func(x, y, z int) bool { return x == 15 },
		func(x, y, z int) bool { return z == 0 },
		func(x, y, z int) bool { return z == 15 },
	} {
		ores := 0
		for n, c := range places {
			x := chunk.Full(api.Dirt)
			for k := range api.Cells {
				if keep(k%16, k/256, k/16%16) {
					x.Set(k, api.Stone)
				}
			}
			ores += holdApply(t, uint64(n), c, x)
		}
		if ores == 0 {
			t.Errorf("no ore at the side %d", i)
		}
	}
}

// nearest is the vein of an ore whose middle is nearest to a cell; none, if none is of that ore.
func nearest(veins []told, ore int, p api.Pos) told {
	var found told
	for _, v := range veins {
		if v.ore == ore && (found.ore == 0 || v.far(p) < found.far(p)) {
			found = v
		}
	}
	return found
}

// P16.4: every ore that is put there lies at most two away from the middle of a vein of that ore, in the three ways together; some lie just two away, and some have their middle in another chunk. The veins are those of all origins about the chunk, whichever are asked.
func TestOresLieNearMiddles(t *testing.T) {
	var away [3]int
	beyond := 0
	for _, seed := range seeds {
		for _, c := range places {
			var veins []told
			for i := range 6 * 20 * 6 {
				v := ruleVein(seed, c.X*16>>3+i%6-2, i/36-2, c.Z*16>>3+i/6%6-2)
				if v.ore != 0 {
					veins = append(veins, v)
				}
			}
			_, hollow := ground(t, seed, c)
			for _, x := range []*chunk.Chunk{chunk.Full(api.Stone), hollow} {
				got := applied(t, seed, c, x)
				for _, i := range got.Diff(x) {
					p := cell(c, i)
					v := nearest(veins, got.Get(i), p)
					if v.ore == 0 || v.far(p) > 2 {
						t.Fatalf("of seed %d at %v: the ore at %v lies far from all middles", seed, c, p)
					}
					away[v.far(p)]++
					if v.x>>4 != p.X>>4 || v.z>>4 != p.Z>>4 {
						beyond++
					}
				}
			}
		}
	}
	if slices.Contains(away[:], 0) || beyond == 0 {
		t.Errorf("so many ores lie none, one and two away: %v; so many have their middle in another chunk: %d", away, beyond)
	}
}

// R3: what is done to an answer is done to nothing else, nor is what is done to the chunk that was handed in, also where nothing became ore.
func TestChunksAreTheirOwn(t *testing.T) {
	for _, x := range []*chunk.Chunk{chunk.Full(api.Stone), chunk.New(), mixed(5, 20)} {
		before := x.Bytes()
		one, two := applied(t, 1, api.At{}, x), applied(t, 1, api.At{}, x)
		kept := two.Bytes()
		if one == two || !slices.Equal(one.Bytes(), kept) {
			t.Fatal("two calls answer one chunk, or chunks that are not alike")
		}
		one.Fill(0, 127, api.Lamp)
		if !slices.Equal(before, x.Bytes()) || !slices.Equal(two.Bytes(), kept) {
			t.Error("a chunk is changed with an answer")
		}
		if later := applied(t, 1, api.At{}, x); later == one || !slices.Equal(later.Bytes(), kept) {
			t.Error("a later call tells what was changed")
		}
		x.Fill(0, 127, api.Brick)
		if !slices.Equal(two.Bytes(), kept) {
			t.Error("an answer is changed with what was handed in")
		}
	}
}

// P16.3: what was applied once stays when it is applied again.
func TestApplyTwice(t *testing.T) {
	for i, c := range places {
		once := applied(t, uint64(i), c, mixed(int64(i), 30))
		if twice := applied(t, uint64(i), c, once); len(once.Diff(twice)) != 0 {
			t.Errorf("of seed %d at %v: ores become something else", i, c)
		}
	}
}

// R5: nothing hangs on what was asked before, not on what was refused either.
func TestNothingIsKept(t *testing.T) {
	var kept [][]byte
	var ores []int
	for i, c := range places {
		kept = append(kept, applied(t, uint64(i), c, mixed(int64(i), 5)).Bytes())
		ores = append(ores, Of(uint64(i), cell(c, 5000)))
	}
	for i := len(places) - 1; i >= 0; i-- {
		Apply(uint64(i), places[i], nil)
		applied(t, uint64(i)+1, places[i], chunk.Full(api.Stone))
		if got := applied(t, uint64(i), places[i], mixed(int64(i), 5)); !slices.Equal(got.Bytes(), kept[i]) || Of(uint64(i), cell(places[i], 5000)) != ores[i] {
			t.Errorf("the chunk at %v is told otherwise the second time", places[i])
		}
	}
}

// P16.1: another seed, and another place, have other ores.
func TestApplyHangsOnSeedAndPlace(t *testing.T) {
	var seen [][]byte
	for _, seed := range seeds {
		for _, c := range append([]api.At{{X: 41, Z: -37}, {X: 1}, {Z: 1}}, places...) {
			got := applied(t, seed, c, chunk.Full(api.Stone)).Bytes()
			for _, b := range seen {
				if slices.Equal(b, got) {
					t.Fatalf("of seed %d at %v: ores as of another", seed, c)
				}
			}
			seen = append(seen, got)
		}
	}
}
