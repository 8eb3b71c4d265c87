package grid

import (
	"math"
	"math/big"
	"slices"
	"testing"

	"outcrop/api"
)

const (
	least    = math.MinInt
	greatest = math.MaxInt
	border   = 1 << 20
	farthest = 1 << 40
)

// ints are coordinates: about 0, about the borders of chunks, of the world and of boxes, and about the least and the greatest.
func ints() []int {
	l := []int{0, 3, 100, -100, 123456, -654321}
	for _, n := range []int{1, 8, 16, 128, border, 1 << 31, farthest, 1 << 59} {
		l = append(l, n-1, n, n+1, -n-1, -n, -n+1)
	}
	for n := range 18 {
		l = append(l, least+n, greatest-n)
	}
	return l
}

// pos and box spare the tests the names of fields.
func pos(x, y, z int) api.Pos { return api.Pos{X: x, Y: y, Z: z} }

func box(ax, ay, az, bx, by, bz int) api.Box {
	return api.Box{A: pos(ax, ay, az), B: pos(bx, by, bz)}
}

// wrapped is the lowest 64 bits of a number.
func wrapped(n *big.Int) int {
	two64 := new(big.Int).Lsh(big.NewInt(1), 64)
	return int(new(big.Int).Mod(n, two64).Uint64())
}

// split is a coordinate divided by 16, and what is left. math/big's DivMod rounds down for a divisor above 0.
func split(v int) (int, int) {
	q, r := new(big.Int).DivMod(big.NewInt(int64(v)), big.NewInt(16), new(big.Int))
	return int(q.Int64()), int(r.Int64())
}

// P4.1: cells at each border of the world, one before it and one behind it, and at the least and the greatest int.
func TestIn(t *testing.T) {
	for _, x := range []struct {
		p    api.Pos
		want bool
	}{
		{pos(0, 0, 0), true},
		{pos(-1, 5, 16), true},
		{pos(-border, 0, -border), true},
		{pos(border, 127, border), true},
		{pos(-border, 127, border), true},
		{pos(-border+1, 64, border-1), true},
		{pos(border-1, 64, -border+1), true},
		{pos(-border-1, 0, 0), false},
		{pos(border+1, 0, 0), false},
		{pos(0, 0, -border-1), false},
		{pos(0, 0, border+1), false},
		{pos(0, -1, 0), false},
		{pos(0, 1, 0), true},
		{pos(0, 126, 0), true},
		{pos(0, 127, 0), true},
		{pos(0, 128, 0), false},
		{pos(0, border, 0), false},
		{pos(least, 0, 0), false},
		{pos(greatest, 0, 0), false},
		{pos(0, least, 0), false},
		{pos(0, greatest, 0), false},
		{pos(0, 0, least), false},
		{pos(0, 0, greatest), false},
		{pos(least, greatest, least), false},
	} {
		if got := In(x.p); got != x.want {
			t.Errorf("In(%v) is %v", x.p, got)
		}
	}
}

// P4.1: the example, the borders between chunks on both sides of 0, and the outermost chunks.
func TestChunk(t *testing.T) {
	for _, x := range []struct {
		p    api.Pos
		want api.At
	}{
		{pos(0, 0, 0), api.At{}},
		{pos(-1, 5, 16), api.At{X: -1, Z: 1}},
		{pos(16, 5, -1), api.At{X: 1, Z: -1}},
		{pos(15, 0, 15), api.At{}},
		{pos(-16, 0, -17), api.At{X: -1, Z: -2}},
		{pos(-17, 0, -16), api.At{X: -2, Z: -1}},
		{pos(border, 0, -border), api.At{X: 65536, Z: -65536}},
		{pos(border+1, 0, -border-1), api.At{X: 65536, Z: -65537}},
		{pos(3, -1, 40), api.At{X: 0, Z: 2}},
		{pos(3, 128, 40), api.At{X: 0, Z: 2}},
		{pos(3, least, 40), api.At{X: 0, Z: 2}},
		{pos(3, greatest, 40), api.At{X: 0, Z: 2}},
		{pos(least, 0, greatest), api.At{X: -1 << 59, Z: 1<<59 - 1}},
		{pos(greatest, 0, least), api.At{X: 1<<59 - 1, Z: -1 << 59}},
	} {
		if got := Chunk(x.p); got != x.want {
			t.Errorf("Chunk(%v) is %v, not %v", x.p, got, x.want)
		}
	}
}

// P4.1: the example, the first and the last place, those about them, and no place below 0 and from 128 on, whatever X and Z are.
func TestIndex(t *testing.T) {
	for _, x := range []struct {
		p    api.Pos
		want int
	}{
		{pos(0, 0, 0), 0},
		{pos(1, 0, 0), 1},
		{pos(0, 0, 1), 16},
		{pos(0, 1, 0), 256},
		{pos(15, 127, 15), 32767},
		{pos(-1, 5, 16), 1295},
		{pos(-1, 0, -1), 255},
		{pos(-16, 0, -16), 0},
		{pos(-2, 3, -15), 768 + 16 + 14},
		{pos(border, 0, -border), 0},
		{pos(border+1, 127, -border-1), 32512 + 240 + 1},
		{pos(least, 0, greatest), 240},
		{pos(greatest, 0, least), 15},
		{pos(greatest, 127, greatest), 32767},
		{pos(0, -1, 0), -1},
		{pos(0, 128, 0), -1},
		{pos(-1, -1, 16), -1},
		{pos(-1, 128, 16), -1},
		{pos(7, least, 7), -1},
		{pos(7, greatest, 7), -1},
		{pos(least, -1, greatest), -1},
		{pos(greatest, 128, least), -1},
	} {
		if got := Index(x.p); got != x.want {
			t.Errorf("Index(%v) is %d, not %d", x.p, got, x.want)
		}
	}
}

// P4.1, P4.5: chunks and places of coordinates of all sizes, by numbers that do not wrap round; the cell of both is the one that they were asked of.
func TestCellOfChunkAndIndex(t *testing.T) {
	for _, x := range ints() {
		for _, z := range ints() {
			cx, rx := split(x)
			cz, rz := split(z)
			for _, y := range []int{least, -128, -1, 0, 1, 63, 126, 127, 128, 129, 256, greatest} {
				p := pos(x, y, z)
				c, i := Chunk(p), Index(p)
				if c != (api.At{X: cx, Z: cz}) {
					t.Fatalf("Chunk(%v) is %v, not %d, %d", p, c, cx, cz)
				}
				if y < 0 || y > 127 {
					if i != -1 {
						t.Fatalf("Index(%v) is %d, not -1", p, i)
					}
					continue
				}
				if i != y*256+rz*16+rx {
					t.Fatalf("Index(%v) is %d, not %d", p, i, y*256+rz*16+rx)
				}
				if got := Cell(c, i); got != p {
					t.Fatalf("Cell(%v, %d) is %v, not %v", c, i, got, p)
				}
			}
		}
	}
}

// P4.1, P4.5: every place of some chunks, counted up cell by cell; each is told by the cell that stands there.
func TestCellOfAllPlaces(t *testing.T) {
	for _, c := range []api.At{{X: 0, Z: 0}, {X: -1, Z: 1}, {X: 65536, Z: -65536}, {X: -1 << 59, Z: 1<<59 - 1}} {
		i := 0
		for y := 0; y < 128; y++ {
			for z := 0; z < 16; z++ {
				for x := 0; x < 16; x++ {
					want := pos(16*c.X+x, y, 16*c.Z+z)
					if got := Cell(c, i); got != want {
						t.Fatalf("Cell(%v, %d) is %v, not %v", c, i, got, want)
					}
					if Chunk(want) != c || Index(want) != i {
						t.Fatalf("%v is at %v, %d, not at %v, %d", want, Chunk(want), Index(want), c, i)
					}
					i++
				}
			}
		}
	}
}

// P4.1: the example, and the first and the last place of a chunk.
func TestCell(t *testing.T) {
	for _, x := range []struct {
		c    api.At
		i    int
		want api.Pos
	}{
		{api.At{X: -1, Z: 1}, 1295, pos(-1, 5, 16)},
		{api.At{X: -1, Z: 1}, 0, pos(-16, 0, 16)},
		{api.At{X: -1, Z: 1}, 32767, pos(-1, 127, 31)},
		{api.At{X: 3, Z: -2}, 256, pos(48, 1, -32)},
		{api.At{X: 3, Z: -2}, 16, pos(48, 0, -31)},
		{api.At{X: 3, Z: -2}, 1, pos(49, 0, -32)},
	} {
		if got := Cell(x.c, x.i); got != x.want {
			t.Errorf("Cell(%v, %d) is %v, not %v", x.c, x.i, got, x.want)
		}
	}
}

// P4.1, R4: a chunk of any coordinates has cells, of whose X and Z the lowest 64 bits count.
func TestCellOfFarChunks(t *testing.T) {
	times := func(c, rest int) int {
		n := new(big.Int).Mul(big.NewInt(int64(c)), big.NewInt(16))
		return wrapped(n.Add(n, big.NewInt(int64(rest))))
	}
	for _, x := range ints() {
		for _, z := range ints() {
			for _, i := range []int{0, 1, 15, 16, 255, 256, 257, 1295, 32767} {
				c := api.At{X: x, Z: z}
				want := pos(times(x, i%16), i/256, times(z, i/16%16))
				if got := Cell(c, i); got != want {
					t.Fatalf("Cell(%v, %d) is %v, not %v", c, i, got, want)
				}
			}
		}
	}
}

// P4.1: of what is no place there is the zero cell, whatever the chunk.
func TestCellOfNoPlace(t *testing.T) {
	for _, i := range []int{-1, -2, -256, -32768, 32768, 32769, 65536, 1 << 32, least, least + 1295, greatest} {
		for _, x := range ints() {
			c := api.At{X: x, Z: 7}
			if got := Cell(c, i); got != (api.Pos{}) {
				t.Fatalf("Cell(%v, %d) is %v", c, i, got)
			}
		}
	}
}

// P4.2: boxes of one cell and of the whole world, ends that are beyond it, and an A above B in one coordinate alone.
func TestInside(t *testing.T) {
	for _, x := range []struct {
		b    api.Box
		want bool
	}{
		{api.Box{}, true},
		{box(0, 0, 0, 1, 2, 3), true},
		{box(-border, 0, -border, border, 127, border), true},
		{box(border, 127, border, border, 127, border), true},
		{box(-border, 0, -border, -border, 0, -border), true},
		{box(5, 6, 7, 5, 6, 7), true},
		{box(5, 6, 7, 4, 6, 7), false},
		{box(5, 6, 7, 5, 5, 7), false},
		{box(5, 6, 7, 5, 6, 6), false},
		{box(5, 6, 7, 4, 60, 70), false},
		{box(5, 6, 7, 50, 5, 70), false},
		{box(5, 6, 7, 50, 60, 6), false},
		{box(-5, 0, -7, -6, 127, 0), false},
		{box(-border-1, 0, 0, 0, 0, 0), false},
		{box(0, -1, 0, 0, 0, 0), false},
		{box(0, 0, -border-1, 0, 0, 0), false},
		{box(0, 0, 0, border+1, 0, 0), false},
		{box(0, 0, 0, 0, 128, 0), false},
		{box(0, 0, 0, 0, 0, border+1), false},
		{box(border+1, 0, 0, border+1, 0, 0), false},
		{box(0, 128, 0, 0, 128, 0), false},
		{box(0, -1, 0, 0, -1, 0), false},
		{box(least, least, least, greatest, greatest, greatest), false},
		{box(0, 0, 0, greatest, greatest, greatest), false},
		{box(least, least, least, 0, 0, 0), false},
		{box(greatest, greatest, greatest, least, least, least), false},
	} {
		if got := Inside(x.b); got != x.want {
			t.Errorf("Inside(%v) is %v", x.b, got)
		}
	}
}

// P4.2: Inside, by what In tells of the ends.
func TestInsideOfAllEnds(t *testing.T) {
	xs := []int{least, -border - 1, -border, -border + 1, -1, 0, 1, border - 1, border, border + 1, greatest}
	ys := []int{least, -1, 0, 1, 126, 127, 128, greatest}
	for _, ax := range xs {
		for _, bx := range xs {
			for _, ay := range ys {
				for _, by := range ys {
					for _, b := range []api.Box{box(ax, ay, 4, bx, by, 4), box(4, ay, ax, 4, by, bx), box(ax, ay, ax, bx, by, bx)} {
						want := In(b.A) && In(b.B) && ax <= bx && ay <= by
						if got := Inside(b); got != want {
							t.Fatalf("Inside(%v) is %v", b, got)
						}
					}
				}
			}
		}
	}
}

// P4.2: the examples, one cell, an A above B in one coordinate alone, ends at the farthest coordinates and beyond, and boxes with just 2^31 cells, with fewer and with more.
func TestCount(t *testing.T) {
	const most = 1 << 31
	for _, x := range []struct {
		b    api.Box
		want int
	}{
		{box(0, 0, 0, 1, 2, 3), 24},
		{box(1, 0, 0, 0, 0, 0), 0},
		{api.Box{}, 1},
		{box(-7, 200, 9, -7, 200, 9), 1},
		{box(0, 1, 0, 0, 0, 0), 0},
		{box(0, 0, 1, 0, 0, 0), 0},
		{box(5, 6, 7, 4, 60, 70), 0},
		{box(5, 6, 7, 50, 5, 70), 0},
		{box(5, 6, 7, 50, 60, 6), 0},
		{box(-2, -3, -4, 2, 3, 4), 5 * 7 * 9},
		{box(-16, -128, -1, -1, -1, 0), 16 * 128 * 2},
		{box(farthest, farthest, farthest, farthest, farthest, farthest), 1},
		{box(-farthest, -farthest, -farthest, -farthest, -farthest, -farthest), 1},
		{box(farthest-1, 0, 0, farthest, 0, 0), 2},
		{box(0, -farthest, 0, 0, -farthest+2, 0), 3},
		{box(farthest, 0, 0, farthest+1, 0, 0), 0},
		{box(0, farthest, 0, 0, farthest+1, 0), 0},
		{box(0, 0, farthest, 0, 0, farthest+1), 0},
		{box(farthest+1, 0, 0, farthest+1, 0, 0), 0},
		{box(-farthest-1, 0, 0, -farthest, 0, 0), 0},
		{box(0, -farthest-1, 0, 0, -farthest, 0), 0},
		{box(0, 0, -farthest-1, 0, 0, -farthest), 0},
		{box(0, -farthest-1, 0, 0, -farthest-1, 0), 0},
		{box(0, 0, 0, most-2, 0, 0), most - 1},
		{box(0, 0, 0, most-1, 0, 0), most},
		{box(0, 0, 0, most, 0, 0), most},
		{box(0, 0, 0, 0, most-2, 0), most - 1},
		{box(0, 0, 0, 0, most-1, 0), most},
		{box(0, 0, 0, 0, most, 0), most},
		{box(0, 0, 0, 0, 0, most-2), most - 1},
		{box(0, 0, 0, 0, 0, most-1), most},
		{box(0, 0, 0, 0, 0, most), most},
		{box(1, 1, 1, 2048, 1024, 1024), most},
		{box(1, 1, 1, 2048, 1024, 1023), 2048 * 1024 * 1023},
		{box(1, 1, 1, 2048, 1024, 1025), most},
		{box(1, 1, 1, 1<<31, 1<<33, 1), most},
		{box(1, 1, 1, 1<<32, 1<<32, 1), most},
		{box(1, 1, 1, 1, 1<<32, 1<<32), most},
		{box(-farthest, -farthest, -farthest, farthest, farthest, farthest), most},
		{box(-farthest, -farthest, 0, farthest, farthest, 0), most},
		{box(-farthest, 0, -farthest, farthest, 0, farthest), most},
		{box(-farthest, -farthest, 1, farthest, farthest, 0), 0},
		{box(-farthest, 1, -farthest, farthest, 0, farthest), 0},
		{box(1, -farthest, -farthest, 0, farthest, farthest), 0},
		{box(-farthest, -farthest, -farthest, farthest, farthest, farthest+1), 0},
		{box(-farthest-1, -farthest, -farthest, farthest, farthest, farthest), 0},
		{box(least, 0, 0, greatest, 0, 0), 0},
		{box(0, least, 0, 0, greatest, 0), 0},
		{box(0, 0, least, 0, 0, greatest), 0},
		{box(greatest, 0, 0, least, 0, 0), 0},
		{box(least, least, least, least, least, least), 0},
		{box(greatest, greatest, greatest, greatest, greatest, greatest), 0},
	} {
		if got := Count(x.b); got != x.want {
			t.Errorf("Count(%v) is %d, not %d", x.b, got, x.want)
		}
	}
}

// slowCount is P4.2's rule in numbers that do not wrap round.
func slowCount(b api.Box) int {
	n := big.NewInt(1)
	for _, e := range [][2]int{{b.A.X, b.B.X}, {b.A.Y, b.B.Y}, {b.A.Z, b.B.Z}} {
		for _, v := range e {
			if v < -farthest || v > farthest {
				return 0
			}
		}
		if e[0] > e[1] {
			return 0
		}
		side := new(big.Int).Sub(big.NewInt(int64(e[1])), big.NewInt(int64(e[0])))
		n.Mul(n, side.Add(side, big.NewInt(1)))
	}
	if n.Cmp(big.NewInt(1<<31)) > 0 {
		return 1 << 31
	}
	return int(n.Int64())
}

// P4.2: boxes with ends of all sizes, in each of the three ways.
func TestCountOfAllEnds(t *testing.T) {
	l := ints()
	for i, a := range l {
		for j, b := range l {
			for k := range 40 {
				c, d := l[(i+k)%len(l)], l[(j+3*k)%len(l)]
				for _, x := range []api.Box{box(a, c, 0, b, d, 1), box(0, a, c, 1, b, d), box(c, 0, a, d, 1, b), box(a, c, d, b, d, c)} {
					if got, want := Count(x), slowCount(x); got != want {
						t.Fatalf("Count(%v) is %d, not %d", x, got, want)
					}
				}
			}
		}
	}
}

// smalls are boxes that can be gone over whole: one cell, rows each way, layers, and some at the farthest coordinates.
func smalls() []api.Box {
	return []api.Box{
		{},
		box(-9, 300, 4, -9, 300, 4),
		box(0, 0, 0, 1, 2, 3),
		box(0, 0, 0, 6, 0, 0),
		box(0, 0, 0, 0, 6, 0),
		box(0, 0, 0, 0, 0, 6),
		box(-2, 5, -1, 2, 5, 1),
		box(-2, -2, -2, 1, 0, 2),
		box(-17, 126, 15, -15, 129, 17),
		box(farthest, farthest, farthest, farthest, farthest, farthest),
		box(-farthest, -farthest, -farthest, -farthest, -farthest, -farthest),
		box(farthest-1, farthest-2, farthest-3, farthest, farthest, farthest),
		box(-farthest, -farthest, -farthest, -farthest+3, -farthest+2, -farthest+1),
	}
}

// cells are a box's cells, by P4.3's order.
func cells(b api.Box) []api.Pos {
	var l []api.Pos
	for y := b.A.Y; y <= b.B.Y; y++ {
		for z := b.A.Z; z <= b.B.Z; z++ {
			for x := b.A.X; x <= b.B.X; x++ {
				l = append(l, pos(x, y, z))
			}
		}
	}
	return l
}

// P4.3: a box of twelve cells, by rising Y, then Z, then X.
func TestEach(t *testing.T) {
	want := []api.Pos{
		pos(4, 7, -1), pos(5, 7, -1), pos(4, 7, 0), pos(5, 7, 0), pos(4, 7, 1), pos(5, 7, 1),
		pos(4, 8, -1), pos(5, 8, -1), pos(4, 8, 0), pos(5, 8, 0), pos(4, 8, 1), pos(5, 8, 1),
	}
	if got := slices.Collect(Each(box(4, 7, -1, 5, 8, 1))); !slices.Equal(got, want) {
		t.Errorf("Each tells %v, not %v", got, want)
	}
}

// P4.3, P4.5: each cell of a box once, in order, and as many as Count.
func TestEachTellsCountCells(t *testing.T) {
	for _, b := range smalls() {
		var got []api.Pos
		seen := map[api.Pos]int{}
		for p := range Each(b) {
			got = append(got, p)
			seen[p]++
		}
		if !slices.Equal(got, cells(b)) {
			t.Fatalf("Each(%v) tells %v", b, got)
		}
		if n := Count(b); n != len(got) || n != len(seen) {
			t.Fatalf("Count(%v) is %d, and Each tells %d cells, %d of them once", b, n, len(got), len(seen))
		}
	}
}

// P4.3: every box with ends from 0 to 2, of which most have an A above B somewhere.
func TestEachOfLittleBoxes(t *testing.T) {
	for i := range 729 {
		b := box(i%3, i/3%3, i/9%3, i/27%3, i/81%3, i/243)
		got := slices.Collect(Each(b))
		if !slices.Equal(got, cells(b)) || len(got) != Count(b) {
			t.Fatalf("Each(%v) tells %v, and Count %d", b, got, Count(b))
		}
	}
}

// P4.3: a box may be left behind any number of cells: no cell is told behind the one at which it was left.
func TestEachIsLeft(t *testing.T) {
	for _, b := range smalls() {
		want := cells(b)
		for many := 1; many <= len(want); many++ {
			var got []api.Pos
			Each(b)(func(p api.Pos) bool {
				got = append(got, p)
				return len(got) < many
			})
			if !slices.Equal(got, want[:many]) {
				t.Fatalf("Each(%v), left behind %d, tells %v", b, many, got)
			}
		}
	}
}

// P4.3, P1: boxes with far too many cells to go over them all can be begun, and be left.
func TestEachOfGreatBoxes(t *testing.T) {
	for _, b := range []api.Box{
		box(-farthest, -farthest, -farthest, farthest, farthest, farthest),
		box(-1, -farthest, 5, 1, farthest, 6),
		box(7, 0, -farthest, 7, 9, farthest),
		box(0, 0, 0, 1<<31-1, 0, 0),
		box(0, 0, 0, 1<<31, 1, 1),
	} {
		want := b.A
		many := 0
		for p := range Each(b) {
			if p != want {
				t.Fatalf("Each(%v) tells %v, not %v", b, p, want)
			}
			if many++; many == 10000 {
				break
			}
			want.X++
			if want.X > b.B.X {
				want.X = b.A.X
				want.Z++
			}
			if want.Z > b.B.Z {
				want.Z = b.A.Z
				want.Y++
			}
		}
		if many != 10000 {
			t.Fatalf("Each(%v) tells %d cells", b, many)
		}
	}
}

// P4.3, P1: no cell of a box whose Count is 0, with ends of all sizes.
func TestEachOfNoCells(t *testing.T) {
	l := ints()
	for i, a := range l {
		for j, b := range l {
			c, d := l[(i+7*j)%len(l)], l[(3*i+j)%len(l)]
			for _, x := range []api.Box{box(a, c, d, b, c, d), box(c, a, d, c, b, d), box(c, d, a, c, d, b), box(a, c, d, b, d, c)} {
				if Count(x) != 0 {
					continue
				}
				for p := range Each(x) {
					t.Fatalf("Each(%v) tells %v", x, p)
				}
			}
		}
	}
}

// P4.3, R5: one that was left, or gone over within another one, begins anew each time.
func TestEachBeginsAnew(t *testing.T) {
	b := box(-1, 3, -1, 1, 4, 0)
	each := Each(b)
	for p := range each {
		if p == pos(0, 3, 0) {
			break
		}
	}
	n := 0
	for range each {
		if got := slices.Collect(each); !slices.Equal(got, cells(b)) {
			t.Fatalf("Each tells %v", got)
		}
		n++
	}
	if n != Count(b) {
		t.Errorf("%d cells, not %d", n, Count(b))
	}
}

// R3: a box that is changed behind the call is gone over as it was.
func TestEachKeepsItsBox(t *testing.T) {
	b := box(0, 0, 0, 2, 1, 1)
	was := b
	each := Each(b)
	var got []api.Pos
	for p := range each {
		got = append(got, p)
		b = box(9, 9, 9, 10, 10, 10)
		p.X = 77
	}
	if !slices.Equal(got, cells(was)) {
		t.Errorf("Each tells %v", got)
	}
}

// P4.4: the example, whole.
func TestNear(t *testing.T) {
	want := []api.At{{X: -1, Z: -1}, {X: 0, Z: -1}, {X: 1, Z: -1}, {X: -1, Z: 0}, {X: 0, Z: 0}, {X: 1, Z: 0}, {X: -1, Z: 1}, {X: 0, Z: 1}, {X: 1, Z: 1}}
	if got := Near(api.At{}, 1); !slices.Equal(got, want) {
		t.Errorf("Near is %v", got)
	}
	if got := Near(api.At{X: -5, Z: 9}, 0); !slices.Equal(got, []api.At{{X: -5, Z: 9}}) {
		t.Errorf("Near with r 0 is %v", got)
	}
	if got := Near(api.At{X: 10, Z: -20}, 8); len(got) != 289 || got[0] != (api.At{X: 2, Z: -28}) || got[1] != (api.At{X: 3, Z: -28}) || got[17] != (api.At{X: 2, Z: -27}) || got[288] != (api.At{X: 18, Z: -12}) {
		t.Errorf("Near with r 8 is %v", got)
	}
}

// P4.4, R4: about chunks of any coordinates, with every r that may be: by rising steps of Z, then of X, of which the lowest 64 bits count.
func TestNearOfAll(t *testing.T) {
	add := func(v, step int) int {
		return wrapped(new(big.Int).Add(big.NewInt(int64(v)), big.NewInt(int64(step))))
	}
	l := ints()
	for i, x := range l {
		for j := range 12 {
			z := l[(i*j+j)%len(l)]
			for r := range 9 {
				var want []api.At
				for dz := -r; dz <= r; dz++ {
					for dx := -r; dx <= r; dx++ {
						want = append(want, api.At{X: add(x, dx), Z: add(z, dz)})
					}
				}
				if got := Near(api.At{X: x, Z: z}, r); !slices.Equal(got, want) {
					t.Fatalf("Near(%d %d, %d) is %v, not %v", x, z, r, got, want)
				}
			}
		}
	}
}

// P4.4: of another r there are none, also about the least and the greatest int.
func TestNearOfOtherRadii(t *testing.T) {
	for _, r := range []int{-1, -2, -8, -9, 9, 10, 16, 1 << 20, 1 << 40, 1 << 62, least, least + 1, greatest} {
		for _, x := range ints() {
			for _, z := range []int{0, -3, least, greatest} {
				if got := Near(api.At{X: x, Z: z}, r); len(got) != 0 {
					t.Fatalf("Near(%d %d, %d) is %v", x, z, r, got)
				}
			}
		}
	}
}

// P4.5: a chunk is near another one just if that one is near it, also where coordinates wrap round.
func TestNearIsMutual(t *testing.T) {
	coords := []int{0, -1, 40, least, least + 3, greatest, greatest - 3}
	steps := []int{-9, -8, -4, -1, 0, 1, 3, 8, 9}
	for r := range 9 {
		for i, x := range coords {
			a := api.At{X: x, Z: coords[len(coords)-1-i]}
			about := Near(a, r)
			for _, dx := range steps {
				for _, dz := range steps {
					b := api.At{X: a.X + dx, Z: a.Z + dz}
					want := max(dx, -dx, dz, -dz) <= r
					if slices.Contains(about, b) != want || slices.Contains(Near(b, r), a) != want {
						t.Fatalf("%v and %v with r %d: near is not %v", a, b, r, want)
					}
				}
			}
		}
	}
}

// P4.4: no chunk is told twice.
func TestNearTellsEachOnce(t *testing.T) {
	for r := range 9 {
		for _, x := range ints() {
			seen := map[api.At]int{}
			for _, c := range Near(api.At{X: x, Z: -x}, r) {
				seen[c]++
			}
			if len(seen) != (2*r+1)*(2*r+1) {
				t.Fatalf("Near(%d %d, %d) has %d chunks", x, -x, r, len(seen))
			}
		}
	}
}

// R3, R5: what was answered is the caller's own.
func TestNearIsTheCallersOwn(t *testing.T) {
	c := api.At{X: 3, Z: 4}
	first := Near(c, 2)
	was := slices.Clone(first)
	second := Near(c, 2)
	for i := range first {
		first[i] = api.At{X: 99, Z: 99}
	}
	_ = append(first[:0], api.At{X: 98})
	if !slices.Equal(second, was) || !slices.Equal(Near(c, 2), was) {
		t.Error("a change of an answer is seen in another one")
	}
}
