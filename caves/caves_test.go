package caves

import (
	"math"
	"math/rand"
	"slices"
	"testing"

	"outcrop/api"
	"outcrop/chunk"
	"outcrop/grid"
	"outcrop/height"
	"outcrop/num"
	"outcrop/rng"
	"outcrop/strata"
)

const (
	least    = math.MinInt
	greatest = math.MaxInt
)

// seeds and places are what most chunks are carved of: on both sides of 0, at the world's ends, and where numbers wrap round.
var (
	seeds  = []uint64{0, 1, 7, math.MaxUint64}
	places = []api.At{{}, {X: -1, Z: -1}, {X: 1, Z: -1}, {X: -37, Z: 41}, {X: 65536, Z: -65536}, {X: greatest, Z: least}, {X: 1 << 59, Z: 1<<59 - 1}}
)

// square is chunks side by side, as many each way, by rising z, then x, that of the least x and z at first.
type square struct {
	first  api.At
	many   int
	chunks []*chunk.Chunk
}

// about is the square of nine chunks about one.
func about(c api.At, near []*chunk.Chunk) square {
	return square{first: api.At{X: c.X - 1, Z: c.Z - 1}, many: 3, chunks: near}
}

// has tells whether a cell, told from the square's corner on, is one of it.
func (s square) has(x, y, z int) bool {
	return x >= 0 && x < s.many*16 && z >= 0 && z < s.many*16 && y >= 0 && y < 128
}

// number is a cell's place among all cells of a square.
func (s square) number(x, y, z int) int { return (y*s.many*16+z)*s.many*16 + x }

// kind is what stands in a cell.
func (s square) kind(x, y, z int) int {
	return s.chunks[z/16*s.many+x/16].Get(y*256 + z%16*16 + x%16)
}

// each goes over all cells of a square.
func (s square) each(do func(x, y, z int)) {
	for y := range 128 {
		for z := range s.many * 16 {
			for x := range s.many * 16 {
				do(x, y, z)
			}
		}
	}
}

// crowded is how many cells about one are open.
func (s square) crowded(open []bool, x, y, z int) int {
	n := 0
	for dy := -1; dy < 2; dy++ {
		for dz := -1; dz < 2; dz++ {
			for dx := -1; dx < 2; dx++ {
				self := dx == 0 && dy == 0 && dz == 0
				if !self && s.has(x+dx, y+dy, z+dz) && open[s.number(x+dx, y+dy, z+dz)] {
					n++
				}
			}
		}
	}
	return n
}

// ruleOpen is P15.2's rule, told with plain numbers and apart from the program: it looks at all cells of all chunks, twice over.
func ruleOpen(seed uint64, s square) []bool {
	fit, open := make([]bool, s.many*s.many*32768), make([]bool, s.many*s.many*32768)
	s.each(func(x, y, z int) {
		i := s.number(x, y, z)
		fit[i] = y > 5 && y < 30 && s.kind(x, y, z) == 1
		open[i] = fit[i] && rng.Below(rng.Hash(seed, 20, s.first.X*16+x, y, s.first.Z*16+z), 100) <= 45
	})
	for range 2 {
		next := make([]bool, len(open))
		s.each(func(x, y, z int) {
			i := s.number(x, y, z)
			next[i] = fit[i] && s.crowded(open, x, y, z) > 12
		})
		open = next
	}
	return open
}

// ruleChunk is the cells of the chunk in that column and that row of a square, by which of the square's are open.
func ruleChunk(s square, open []bool, column, row int) []byte {
	b := s.chunks[row*s.many+column].Bytes()
	for i := range b {
		y := i / 256
		switch {
		case !open[s.number(column*16+i%16, y, row*16+i/16%16)]:
		case y < 11:
			b[i] = 5
		default:
			b[i] = 0
		}
	}
	return b
}

// all are the cells of chunks.
func all(chunks []*chunk.Chunk) [][]byte {
	var l [][]byte
	for _, c := range chunks {
		l = append(l, c.Bytes())
	}
	return l
}

// same tells whether two lists have the same cells.
func same(a, b [][]byte) bool { return slices.EqualFunc(a, b, slices.Equal[[]byte]) }

// carved is what Carve makes of chunks that may be. What is handed in is to stay as it was, and the answer is to be none of it.
func carved(t *testing.T, seed uint64, c api.At, near []*chunk.Chunk) *chunk.Chunk {
	t.Helper()
	list, cells := slices.Clone(near), all(near)
	got, e := Carve(seed, c, near)
	if e != api.OK || got == nil {
		t.Fatalf("of seed %d at %v: Carve answers %v and whether it has a chunk: %v", seed, c, e, got != nil)
	}
	if !slices.Equal(list, near) || !same(cells, all(near)) {
		t.Fatalf("of seed %d at %v: Carve changes what is handed in", seed, c)
	}
	if slices.Contains(near, got) {
		t.Fatalf("of seed %d at %v: Carve answers a chunk that was handed in", seed, c)
	}
	return got
}

// holdCarve holds each cell of a chunk against the rule, and that nothing but stone between the heights becomes anything else.
func holdCarve(t *testing.T, seed uint64, c api.At, near []*chunk.Chunk) *chunk.Chunk {
	t.Helper()
	got := carved(t, seed, c, near)
	s := about(c, near)
	for i, want := range ruleChunk(s, ruleOpen(seed, s), 1, 1) {
		x, y, z := i%16, i/256, i/16%16
		if got.Get(i) != int(want) {
			t.Fatalf("of seed %d at %v: the cell %d, %d, %d is %d, not %d", seed, c, x, y, z, got.Get(i), want)
		}
		if old := near[4].Get(i); old != int(want) && (old != api.Stone || y < 6 || y > 29) {
			t.Fatalf("of seed %d at %v: the cell %d, %d, %d was %d and is %d", seed, c, x, y, z, old, want)
		}
	}
	return got
}

// nine are chunks of one kind.
func nine(k int) []*chunk.Chunk {
	var near []*chunk.Chunk
	for range 9 {
		near = append(near, chunk.Full(k))
	}
	return near
}

// ground is the strata of a seed, near a chunk.
func ground(t *testing.T, seed uint64, c api.At) []*chunk.Chunk {
	t.Helper()
	var near []*chunk.Chunk
	for _, at := range grid.Near(c, 1) {
		x, e := strata.Fill(height.Map(seed, at))
		if e != api.OK {
			t.Fatal(e)
		}
		near = append(near, x)
	}
	return near
}

// mixed are chunks of stone, of which so many cells of a hundred are of any other kind.
func mixed(number int64, percent int) []*chunk.Chunk {
	r := rand.New(rand.NewSource(number))
	near := nine(api.Stone)
	for _, c := range near {
		for i := range api.Cells {
			if r.Intn(100) < percent {
				c.Set(i, []int{0, 2, 3, 4, 5, 6, 7, 8, 9, 10, 11, 12, 13, 14, 15, 16}[r.Intn(16)])
			}
		}
	}
	return near
}

// put sets a cell, told from the corner of the fifth chunk on, in whichever of the nine it is.
func put(near []*chunk.Chunk, x, y, z, k int) {
	x, z = x+16, z+16
	near[z/16*3+x/16].Set(y*256+z%16*16+x%16, k)
}

// away is how far a number is from those of a chunk's columns.
func away(v int) int { return max(-v, v-15, 0) }

// P15.1: cells worked out apart from this program, on both sides of 46 and at the ends of the numbers.
func TestSeedlingKnown(t *testing.T) {
	for _, x := range []struct {
		seed uint64
		p    api.Pos
		want bool
	}{
		{0, api.Pos{}, false},
		{1, api.Pos{}, true},
		{0, api.Pos{X: 1}, true},
		{0, api.Pos{Y: 1}, false},
		{0, api.Pos{Z: 1}, true},
		{7, api.Pos{X: -1, Y: 5, Z: 16}, true},
		{7, api.Pos{X: -1, Y: 6, Z: 16}, false},
		{7, api.Pos{X: 100, Y: 29, Z: -30}, true},
		{7, api.Pos{X: 100, Y: 30, Z: -30}, false},
		{42, api.Pos{X: -1048576, Y: 10, Z: 1048576}, false},
		{42, api.Pos{X: 1048577, Y: 11, Z: -1048577}, true},
		{math.MaxUint64, api.Pos{X: least, Y: least, Z: least}, true},
		{math.MaxUint64, api.Pos{X: greatest, Y: greatest, Z: greatest}, false},
		{0, api.Pos{X: least, Y: greatest}, false},
		{9, api.Pos{Y: -1}, true},
		{9, api.Pos{Y: 128}, false},
		{3, api.Pos{X: -4839, Y: 29, Z: 2885}, true},  // 44
		{3, api.Pos{X: -4447, Y: 13, Z: 2605}, true},  // 45
		{3, api.Pos{X: -3544, Y: 22, Z: 1960}, true},  // 45
		{3, api.Pos{X: -4657, Y: 7, Z: 2755}, false},  // 46
		{3, api.Pos{X: -4048, Y: 22, Z: 2320}, false}, // 46
		{3, api.Pos{X: -4741, Y: 19, Z: 2815}, false}, // 47
	} {
		if got := Seedling(x.seed, x.p); got != x.want {
			t.Errorf("Seedling(%d, %v) is %v", x.seed, x.p, got)
		}
	}
	for _, x := range []struct {
		seed uint64
		y, z int
		want uint64
	}{{7, 12, -5, 0x609aa1de43bccb32}, {math.MaxUint64, 6, 20, 0x539d5e82fb39c23d}} {
		var row uint64
		for i := range 64 {
			if Seedling(x.seed, api.Pos{X: i - 32, Y: x.y, Z: x.z}) {
				row |= 1 << i
			}
		}
		if row != x.want {
			t.Errorf("the row %d, %d of seed %d is %x, not %x", x.y, x.z, x.seed, row, x.want)
		}
	}
}

// P15.1: what rng makes of cells: of the ends of the numbers in each way, and of many others, also above and below the world.
func TestSeedling(t *testing.T) {
	hold := func(seed uint64, p api.Pos) {
		want := rng.Below(rng.Hash(seed, 20, p.X, p.Y, p.Z), 100) < 46
		if got := Seedling(seed, p); got != want {
			t.Fatalf("Seedling(%d, %v) is %v", seed, p, got)
		}
	}
	ends := []int{least, least + 1, -1<<40 - 1, -1048577, -17, -16, -1, 0, 1, 5, 6, 29, 30, 127, 128, 1048577, 1 << 40, greatest - 1, greatest}
	for _, seed := range seeds {
		for _, x := range ends {
			for _, y := range ends {
				for _, z := range ends {
					hold(seed, api.Pos{X: x, Y: y, Z: z})
				}
			}
		}
	}
	r := rand.New(rand.NewSource(1))
	for range 50000 {
		hold(r.Uint64(), api.Pos{X: int(r.Uint64()), Y: int(r.Uint64()), Z: int(r.Uint64())})
		hold(uint64(r.Intn(4)), api.Pos{X: r.Intn(200) - 100, Y: r.Intn(128), Z: r.Intn(200) - 100})
	}
}

// refused holds a list against ErrArg and no chunk.
func refused(t *testing.T, near []*chunk.Chunk, why string) {
	t.Helper()
	for _, c := range places {
		if got, e := Carve(1, c, near); e != api.ErrArg || got != nil {
			t.Errorf("%s: Carve at %v answers %v and whether it has a chunk: %v", why, c, e, got != nil)
		}
	}
}

// P15.2, P1: ErrArg and no chunk, if there are not nine chunks, also where more of them lie behind the list.
func TestCarveOfOtherLengths(t *testing.T) {
	for _, k := range []int{api.Air, api.Stone} {
		many := slices.Concat(nine(k), nine(k), nine(k))
		for n := range many {
			if n != 9 {
				refused(t, many[:n], "another length")
				refused(t, slices.Clone(many[:n]), "another length")
			} else if got, e := Carve(1, api.At{}, many[:n]); e != api.OK || got == nil {
				t.Errorf("Carve of nine answers %v", e)
			}
		}
	}
	refused(t, nil, "none")
	refused(t, make([]*chunk.Chunk, 0, 9), "none")
}

// P15.2, P1: ErrArg and no chunk, if one of nine or all are nil; none of the others changes.
func TestCarveOfNil(t *testing.T) {
	for _, many := range []int{8, 9, 10} {
		refused(t, make([]*chunk.Chunk, many), "all nil")
		for i := range many {
			near := slices.Concat(nine(api.Stone), nine(api.Stone))[:many]
			near[i] = nil
			kept := slices.Clone(near)
			refused(t, near, "one nil")
			if !slices.Equal(kept, near) {
				t.Fatalf("with none at %d, Carve changes the list", i)
			}
			for k, c := range near {
				if k != i && len(c.Diff(chunk.Full(api.Stone))) != 0 {
					t.Fatalf("with none at %d, Carve changes the chunk %d", i, k)
				}
			}
		}
	}
}

// P15.2: the chapter's examples.
func TestExamples(t *testing.T) {
	for _, seed := range seeds {
		for _, c := range places {
			if got := carved(t, seed, c, nine(api.Air)); len(got.Diff(chunk.New())) != 0 {
				t.Errorf("of seed %d at %v: air becomes something", seed, c)
			}
			got := carved(t, seed, c, nine(api.Stone))
			caves := got.Diff(chunk.Full(api.Stone))
			if len(caves) == 0 {
				t.Errorf("of seed %d at %v: stone has no caves", seed, c)
			}
			for _, i := range caves {
				y, k := i/256, got.Get(i)
				if y < 6 || y > 29 || k != api.Air && k != api.Water {
					t.Fatalf("of seed %d at %v: the place %d becomes %d", seed, c, i, k)
				}
			}
		}
	}
}

// P15.2: caves in stone, worked out apart from this program and in another language: how many cells are air and water, and the sum of all.
func TestCarveKnown(t *testing.T) {
	for _, x := range []struct {
		seed       uint64
		c          api.At
		air, water int
		sum        uint32
	}{
		{1, api.At{}, 1498, 226, 0xea8298eb},
		{7, api.At{X: -1, Z: 3}, 1706, 425, 0xe72716d1},
		{42, api.At{X: -37, Z: 41}, 1936, 418, 0x6ab3f07d},
		{math.MaxUint64, api.At{X: 65536, Z: -65536}, 1396, 276, 0x54d4f72b},
		{3, api.At{X: greatest, Z: least}, 1545, 256, 0x9c83ca9e},
		{0, api.At{X: 1 << 59, Z: 1<<59 - 1}, 1742, 322, 0x210379f3},
	} {
		got := carved(t, x.seed, x.c, nine(api.Stone))
		counts, sum := got.Counts(), num.Sum(got.Bytes())
		if counts[api.Air] != x.air || counts[api.Water] != x.water || sum != x.sum {
			t.Errorf("of seed %d at %v: %d of air, %d of water and the sum %x", x.seed, x.c, counts[api.Air], counts[api.Water], sum)
		}
	}
}

// P15.2: all stone; caves are there on both sides of 6, of 10 and of 29 just as the rule has it, and so that each side is seen.
func TestCarveOfStone(t *testing.T) {
	var layers [128][17]int
	for _, seed := range seeds {
		for _, c := range places {
			got := holdCarve(t, seed, c, nine(api.Stone))
			for i, k := range got.Bytes() {
				layers[i/256][k]++
			}
		}
	}
	for _, y := range []int{6, 7, 9, 10} {
		if layers[y][api.Water] == 0 || layers[y][api.Air] != 0 {
			t.Errorf("at %d there are %d of water and %d of air", y, layers[y][api.Water], layers[y][api.Air])
		}
	}
	for _, y := range []int{11, 12, 28, 29} {
		if layers[y][api.Air] == 0 || layers[y][api.Water] != 0 {
			t.Errorf("at %d there are %d of water and %d of air", y, layers[y][api.Water], layers[y][api.Air])
		}
	}
	for _, y := range []int{0, 1, 4, 5, 30, 31, 127} {
		if layers[y][api.Stone] != 256*len(seeds)*len(places) {
			t.Errorf("at %d there are %d of stone", y, layers[y][api.Stone])
		}
	}
}

// P15.2: the strata of seeds.
func TestCarveOfStrata(t *testing.T) {
	for _, seed := range seeds {
		for _, c := range places {
			holdCarve(t, seed, c, ground(t, seed, c))
		}
	}
}

// P15.2: stone with few and with many pieces of all other kinds; nothing but stone becomes anything else.
func TestCarveOfMixtures(t *testing.T) {
	for i, percent := range []int{1, 5, 10, 20, 30, 40, 60, 90, 100} {
		for k := range 2 {
			near := mixed(int64(10*i+k), percent)
			holdCarve(t, seeds[i%len(seeds)], places[(i+k)%len(places)], near)
		}
	}
}

// P15.2, P15.3: chunks of any kind but stone stay as they are.
func TestCarveOfOtherKinds(t *testing.T) {
	for k := range api.None + 1 {
		if got := holdCarve(t, 1, api.At{}, nine(k)); k != api.Stone && len(got.Diff(chunk.Full(k))) != 0 {
			t.Errorf("of the kind %d something becomes something else", k)
		}
	}
}

// P15.2: stone in the chunk's own alone, and in those about it alone.
func TestCarveOfStoneInSome(t *testing.T) {
	for i, c := range places {
		seed := seeds[i%len(seeds)]
		alone := nine(api.Dirt)
		alone[4] = chunk.Full(api.Stone)
		if got := holdCarve(t, seed, c, alone); len(got.Diff(alone[4])) == 0 {
			t.Errorf("of seed %d at %v: stone alone has no caves", seed, c)
		}
		round := nine(api.Stone)
		round[4] = chunk.Full(api.Dirt)
		if got := holdCarve(t, seed, c, round); len(got.Diff(round[4])) != 0 {
			t.Errorf("of seed %d at %v: dirt within stone becomes something else", seed, c)
		}
	}
}

// P15.2: the nine are in grid's order: one of another kind counts on its own side.
func TestCarveOfOneOfAnotherKind(t *testing.T) {
	for i := range 9 {
		for _, seed := range seeds[:2] {
			near := nine(api.Stone)
			near[i] = chunk.Full(api.Sand)
			holdCarve(t, seed, api.At{X: 3, Z: -8}, near)
			near = nine(api.Sand)
			near[4], near[i] = chunk.Full(api.Stone), chunk.Full(api.Stone)
			holdCarve(t, seed, api.At{X: 3, Z: -8}, near)
		}
	}
}

// P15.2: what is below 6 and above 29 is never open: that it is stone or not changes nothing between them, and nothing becomes of it.
func TestCarveBetweenTheHeights(t *testing.T) {
	for i, c := range places {
		seed := seeds[i%len(seeds)]
		near, outside := nine(api.Glass), nine(api.Stone)
		for k := range near {
			near[k].Fill(6, 29, api.Stone)
			outside[k].Fill(6, 29, api.Glass)
		}
		whole := holdCarve(t, seed, c, nine(api.Stone)).Bytes()
		got := holdCarve(t, seed, c, near).Bytes()
		if !slices.Equal(got[6*256:30*256], whole[6*256:30*256]) {
			t.Errorf("of seed %d at %v: what is beyond the heights changes caves", seed, c)
		}
		if got := holdCarve(t, seed, c, outside); len(got.Diff(outside[4])) != 0 {
			t.Errorf("of seed %d at %v: stone beyond the heights becomes something else", seed, c)
		}
		for _, y := range []int{6, 29} {
			thin := nine(api.Air)
			for k := range thin {
				thin[k].Fill(y-1, y+1, api.Stone)
			}
			holdCarve(t, seed, c, thin)
		}
	}
}

// P15.2: chunks that lie side by side have caves that fit: those of many chunks, worked out at once, are those of each with its own nine.
func TestCarveSideBySide(t *testing.T) {
	const many = 5
	for i, seed := range seeds {
		s := square{first: places[i+1], many: many}
		for n := range many * many {
			x, e := strata.Fill(height.Map(seed, api.At{X: s.first.X + n%many, Z: s.first.Z + n/many}))
			if e != api.OK {
				t.Fatal(e)
			}
			s.chunks = append(s.chunks, x)
		}
		open := ruleOpen(seed, s)
		for n := range many * many {
			column, row := n%many, n/many
			if column%(many-1) == 0 || row%(many-1) == 0 {
				continue
			}
			var near []*chunk.Chunk
			for k := range 9 {
				near = append(near, s.chunks[(row+k/3-1)*many+column+k%3-1])
			}
			got := carved(t, seed, api.At{X: s.first.X + column, Z: s.first.Z + row}, near)
			if !slices.Equal(got.Bytes(), ruleChunk(s, open, column, row)) {
				t.Errorf("of seed %d the chunk %d, %d is otherwise than among all", seed, column, row)
			}
		}
	}
}

// P15.3: what stands more than two cells away from the chunk changes nothing.
func TestCarveHangsOnNothingFar(t *testing.T) {
	for number, seed := range seeds {
		for _, c := range places {
			near, other := mixed(int64(number), 10), mixed(int64(number), 10)
			want := carved(t, seed, c, near)
			for y := range 128 {
				for z := -16; z < 32; z++ {
					for x := -16; x < 32; x++ {
						if away(x) > 2 || away(z) > 2 {
							put(other, x, y, z, (x*x+y+z*z)%17)
						}
					}
				}
			}
			if got := carved(t, seed, c, other); len(got.Diff(want)) != 0 {
				t.Errorf("of seed %d at %v: what is far away changes something", seed, c)
			}
		}
	}
}

// P15.3: what stands two cells away changes something for some, on each side and at each corner; and so does what stands one away.
func TestCarveHangsOnWhatIsNear(t *testing.T) {
	for _, far := range []int{1, 2} {
		for side := range 9 {
			sx, sz := side%3-1, side/3-1
			if side == 4 {
				continue
			}
			changed := 0
			for seed := range uint64(40) {
				near := nine(api.Stone)
				want := carved(t, seed, api.At{}, near)
				for y := range 128 {
					for z := -far; z < 16+far; z++ {
						for x := -far; x < 16+far; x++ {
							if onSide(x, sx, far) && onSide(z, sz, far) {
								put(near, x, y, z, api.Dirt)
							}
						}
					}
				}
				changed += len(carved(t, seed, api.At{}, near).Diff(want))
			}
			if changed == 0 {
				t.Errorf("what is %d away on the side %d, %d changes nothing", far, sx, sz)
			}
		}
	}
}

// onSide tells whether a number is just so far below a chunk's columns, among them, or so far above them.
func onSide(v, side, far int) bool {
	switch side {
	case -1:
		return v == -far
	case 1:
		return v == 15+far
	}
	return away(v) == 0
}

// P15.3: one cell that is no stone changes cells that are at most two away in each way, and for some just two away.
func TestCarveHangsOnCellsTwoAway(t *testing.T) {
	farthest := [3]int{}
	for seed := range uint64(60) {
		for _, p := range []api.Pos{{X: 8, Y: 18, Z: 8}, {X: 0, Y: 10, Z: 15}, {X: -1, Y: 20, Z: 5}, {X: -2, Y: 12, Z: -2}, {X: 17, Y: 25, Z: 16}, {X: 7, Y: 17, Z: 9}, {X: 4, Y: 8, Z: 17}} {
			near := nine(api.Stone)
			want := carved(t, seed, api.At{X: -4, Z: 9}, near)
			put(near, p.X, p.Y, p.Z, api.Gold)
			for _, i := range carved(t, seed, api.At{X: -4, Z: 9}, near).Diff(want) {
				for k, d := range [3]int{i%16 - p.X, i/256 - p.Y, i/16%16 - p.Z} {
					farthest[k] = max(farthest[k], d, -d)
				}
			}
		}
	}
	if farthest != [3]int{2, 2, 2} {
		t.Errorf("what one cell changes is as far away as %v", farthest)
	}
}

// P15.2, R3: one chunk may be handed in nine times; the answer is another one all the same.
func TestCarveOfOneChunk(t *testing.T) {
	for _, seed := range seeds {
		one := mixed(int64(seed%100), 10)[0]
		holdCarve(t, seed, api.At{X: 2, Z: -3}, slices.Repeat([]*chunk.Chunk{one}, 9))
	}
}

// R3: what is done to an answer is done to nothing else, nor is what is done to the chunks that were handed in, also where nothing was open.
func TestChunksAreTheirOwn(t *testing.T) {
	for _, near := range [][]*chunk.Chunk{nine(api.Stone), nine(api.Air), mixed(5, 20)} {
		before := all(near)
		one, two := carved(t, 1, api.At{}, near), carved(t, 1, api.At{}, near)
		kept := two.Bytes()
		if one == two || !slices.Equal(one.Bytes(), kept) {
			t.Fatal("two calls answer one chunk, or chunks that are not alike")
		}
		one.Fill(0, 127, api.Lamp)
		if !same(before, all(near)) || !slices.Equal(two.Bytes(), kept) {
			t.Error("a chunk is changed with an answer")
		}
		if later := carved(t, 1, api.At{}, near); later == one || !slices.Equal(later.Bytes(), kept) {
			t.Error("a later call tells what was changed")
		}
		for _, c := range near {
			c.Fill(0, 127, api.Brick)
		}
		if !slices.Equal(two.Bytes(), kept) {
			t.Error("an answer is changed with what was handed in")
		}
	}
}

// R5: nothing hangs on what was asked before, not on what was refused either.
func TestNothingIsKept(t *testing.T) {
	var kept [][]byte
	for i, c := range places {
		kept = append(kept, carved(t, uint64(i), c, mixed(int64(i), 5)).Bytes())
	}
	for i := len(places) - 1; i >= 0; i-- {
		refused(t, nine(api.Stone)[:8], "eight")
		carved(t, uint64(i)+1, places[i], nine(api.Stone))
		if got := carved(t, uint64(i), places[i], mixed(int64(i), 5)); !slices.Equal(got.Bytes(), kept[i]) {
			t.Errorf("the chunk at %v is told otherwise the second time", places[i])
		}
	}
}

// P15.2: another seed, and another place, have other caves.
func TestCarveHangsOnSeedAndPlace(t *testing.T) {
	var seen [][]byte
	for _, seed := range seeds {
		for _, c := range append([]api.At{{X: 41, Z: -37}, {X: 1}, {Z: 1}}, places...) {
			got := carved(t, seed, c, nine(api.Stone)).Bytes()
			for _, b := range seen {
				if slices.Equal(b, got) {
					t.Fatalf("of seed %d at %v: caves as of another", seed, c)
				}
			}
			seen = append(seen, got)
		}
	}
}
