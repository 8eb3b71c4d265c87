package light

import (
	"math/rand"
	"slices"
	"testing"

	"outcrop/api"
	"outcrop/build"
	"outcrop/caves"
	"outcrop/chunk"
	"outcrop/grid"
	"outcrop/height"
	"outcrop/num"
	"outcrop/strata"
	"outcrop/veins"
)

// table is what chapter 5 says of each kind, and chapter 18 of None at the end, told apart from the program.
var table = [17]struct {
	shut, clear bool
	loss, emits int
}{
	0:  {clear: true, loss: 1},
	1:  {shut: true},
	2:  {shut: true},
	3:  {shut: true},
	4:  {shut: true},
	5:  {loss: 3},
	6:  {shut: true},
	7:  {shut: true},
	8:  {shut: true},
	9:  {shut: true, emits: 3},
	10: {shut: true},
	11: {loss: 2},
	12: {shut: true},
	13: {loss: 1, emits: 14},
	14: {clear: true, loss: 1},
	15: {shut: true},
	16: {shut: true},
}

// cell is told from the fifth chunk's lowest corner on: in the chunks about it x and z are below 0 and from 16 on.
type cell struct{ x, y, z int }

// plus is a cell so far away.
func (p cell) plus(d cell) cell { return cell{p.x + d.x, p.y + d.y, p.z + d.z} }

// times is a step made so many times.
func (p cell) times(n int) cell { return cell{p.x * n, p.y * n, p.z * n} }

// away is by how many steps two cells are apart.
func (p cell) away(q cell) int {
	return max(p.x-q.x, q.x-p.x) + max(p.y-q.y, q.y-p.y) + max(p.z-q.z, q.z-p.z)
}

// inside tells whether a cell is one of the nine chunks.
func (p cell) inside() bool {
	return p.x >= -16 && p.x < 32 && p.z >= -16 && p.z < 32 && p.y >= 0 && p.y < 128
}

// own tells whether a cell is one of the fifth chunk, whose place in it is then number.
func (p cell) own() bool   { return p.inside() && p.x >= 0 && p.x < 16 && p.z >= 0 && p.z < 16 }
func (p cell) number() int { return p.y*256 + p.z*16 + p.x }

// ways lead to a cell's neighbours.
var ways = []cell{{x: -1}, {x: 1}, {y: -1}, {y: 1}, {z: -1}, {z: 1}}

// owns are all cells of the fifth chunk, in order.
func owns() []cell {
	var l []cell
	for i := range 32768 {
		l = append(l, cell{i % 16, i / 256, i / 16 % 16})
	}
	return l
}

// land is nine chunks.
type land []*chunk.Chunk

// full are nine of a kind.
func full(k int) land {
	var l land
	for range 9 {
		l = append(l, chunk.Full(k))
	}
	return l
}

// of is the chunk that has a cell, and its place there.
func (l land) of(p cell) (*chunk.Chunk, int) {
	n := (p.z+16)/16*3 + (p.x+16)/16
	return l[n], p.y*256 + (p.z+16)%16*16 + (p.x+16)%16
}

func (l land) kind(p cell) int {
	c, i := l.of(p)
	return c.Get(i)
}

func (l land) set(p cell, k int) {
	c, i := l.of(p)
	c.Set(i, k)
}

// layer makes all cells of a height to be of a kind.
func (l land) layer(y, k int) {
	for _, c := range l {
		c.Fill(y, y, k)
	}
}

// shaft makes a column air, down to a cell.
func (l land) shaft(p cell) {
	for ; p.y < 128; p.y++ {
		l.set(p, 0)
	}
}

// dig makes air of the cells from one to others behind each other, with straight legs between them, and tells them in order.
func (l land) dig(corners ...cell) []cell {
	p := corners[0]
	path := []cell{p}
	l.set(p, 0)
	for _, q := range corners[1:] {
		for p != q {
			for _, w := range ways {
				if p.plus(w).away(q) < p.away(q) {
					p = p.plus(w)
					break
				}
			}
			l.set(p, 0)
			path = append(path, p)
		}
	}
	return path
}

// blocks are the kinds of all cells of all chunks.
func (l land) blocks() [][]byte {
	var all [][]byte
	for _, c := range l {
		all = append(all, c.Bytes())
	}
	return all
}

// copy is other chunks with the same cells.
func (l land) copy() land {
	var all land
	for _, c := range l {
		all = append(all, c.Copy())
	}
	return all
}

// mixed is nine chunks of a kind, of which so many cells of a hundred are of kinds out of a list.
func mixed(number int64, ground, percent int, kinds ...int) land {
	r := rand.New(rand.NewSource(number))
	l := full(ground)
	for _, c := range l {
		for i := range 32768 {
			if r.Intn(100) < percent {
				c.Set(i, kinds[r.Intn(len(kinds))])
			}
		}
	}
	return l
}

// hills is ground of any height with pools, trees without trunks, lamps and holes.
func hills(number int64) land {
	r := rand.New(rand.NewSource(number))
	l := full(0)
	for x := -16; x < 32; x++ {
		for z := -16; z < 32; z++ {
			h := 20 + r.Intn(8)
			for y := range h {
				l.set(cell{x, y, z}, []int{1, 1, 1, 2, 9, 0, 0}[r.Intn(7)])
			}
			for y := h; y < 24; y++ {
				l.set(cell{x, y, z}, 5)
			}
			if r.Intn(4) == 0 {
				l.set(cell{x, 30 + r.Intn(3), z}, 11+r.Intn(6))
			}
		}
	}
	return l
}

// everyKind are the kinds from 0 to 16.
func everyKind() []int {
	var l []int
	for k := range 17 {
		l = append(l, k)
	}
	return l
}

// rule is what light is by the chapter's words, of all cells of the nine chunks: from nought on, each cell is given what its own kind and its neighbours make it, over and over, till nothing changes, so that the numbers are the least ones.
type rule struct {
	kinds, shines, light [128][48][48]int8
}

// ruled are the numbers of the sky or of lamps.
func ruled(l land, sky bool) *rule {
	r := &rule{}
	for z := range 48 {
		for x := range 48 {
			clear := true
			for y := 127; y >= 0; y-- {
				k := l.kind(cell{x - 16, y, z - 16})
				clear = clear && table[k].clear
				r.kinds[y][z][x] = int8(k)
				switch {
				case !sky:
					r.shines[y][z][x] = int8(table[k].emits)
				case clear:
					r.shines[y][z][x] = 15
				}
			}
		}
	}
	for r.again(false) || r.again(true) {
	}
	return r
}

// again goes through all cells, forwards or backwards, and tells whether one has changed.
func (r *rule) again(backwards bool) bool {
	changed := false
	for i := range 128 * 48 * 48 {
		if backwards {
			i = 128*48*48 - 1 - i
		}
		x, z, y := i%48, i/48%48, i/48/48
		if level := r.made(x, y, z); level != r.light[y][z][x] {
			r.light[y][z][x] = level
			changed = true
		}
	}
	return changed
}

// made is what a cell's own kind and its neighbours make it.
func (r *rule) made(x, y, z int) int8 {
	level, of := r.shines[y][z][x], table[r.kinds[y][z][x]]
	if of.shut || level == 15 {
		return level
	}
	most := int8(0)
	if x > 0 {
		most = max(most, r.light[y][z][x-1])
	}
	if x < 47 {
		most = max(most, r.light[y][z][x+1])
	}
	if y > 0 {
		most = max(most, r.light[y-1][z][x])
	}
	if y < 127 {
		most = max(most, r.light[y+1][z][x])
	}
	if z > 0 {
		most = max(most, r.light[y][z-1][x])
	}
	if z < 47 {
		most = max(most, r.light[y][z+1][x])
	}
	return max(level, most-int8(of.loss))
}

// at is what a cell has.
func (r *rule) at(p cell) int { return int(r.light[p.y][p.z+16][p.x+16]) }

// lit is the light of chunks that may be. What is handed in is to stay as it was.
func lit(t *testing.T, l land) (sky, lamp []byte) {
	t.Helper()
	list, blocks := slices.Clone(l), l.blocks()
	sky, lamp, e := Flood(l)
	if e != api.OK || len(sky) != 32768 || len(lamp) != 32768 {
		t.Fatalf("Flood answers %v, and %d and %d cells", e, len(sky), len(lamp))
	}
	if !slices.Equal(list, l) || !slices.EqualFunc(blocks, l.blocks(), slices.Equal[[]byte]) {
		t.Fatal("Flood changes what is handed in")
	}
	return sky, lamp
}

// hold holds the light of each cell against the rule.
func hold(t *testing.T, l land, what ...any) {
	t.Helper()
	sky, lamp := lit(t, l)
	for _, light := range []struct {
		name string
		got  []byte
		want *rule
	}{{"sky", sky, ruled(l, true)}, {"lamps", lamp, ruled(l, false)}} {
		for _, p := range owns() {
			if got, want := int(light.got[p.number()]), light.want.at(p); got != want {
				t.Fatalf("%v: light of the %s at %v, where %d stands: %d, not %d", what, light.name, p, l.kind(p), got, want)
			}
		}
	}
}

// expect holds what some cells of the fifth chunk have against what they should; of others it asks nothing.
func expect(t *testing.T, name string, light []byte, want map[cell]int) {
	t.Helper()
	for p, level := range want {
		if got := int(light[p.number()]); got != level {
			t.Errorf("%s at %v: %d, not %d", name, p, got, level)
		}
	}
}

// everywhere holds all cells of the fifth chunk against a number.
func everywhere(t *testing.T, name string, light []byte, level int) {
	t.Helper()
	if i := slices.IndexFunc(light, func(b byte) bool { return int(b) != level }); i >= 0 {
		t.Errorf("%s: the place %d has %d, not %d", name, i, light[i], level)
	}
}

// P18.1: the chapter's examples.
func TestExamples(t *testing.T) {
	sky, lamp := lit(t, full(api.Air))
	everywhere(t, "sky in air", sky, 15)
	everywhere(t, "lamps in air", lamp, 0)

	stone := full(api.Stone)
	sky, lamp = lit(t, stone)
	everywhere(t, "sky in stone", sky, 0)
	everywhere(t, "lamps in stone", lamp, 0)

	stone.set(cell{7, 50, 9}, api.Lamp)
	sky, lamp = lit(t, stone)
	everywhere(t, "sky in stone with a lamp", sky, 0)
	expect(t, "a lamp in stone", lamp, map[cell]int{{7, 50, 9}: 14})
	lamp[cell{7, 50, 9}.number()] = 0
	everywhere(t, "a lamp in stone, beside it", lamp, 0)
}

// P18.1: the light of the ten examples of the whole, in air.
func TestExamplesOfTheWhole(t *testing.T) {
	l := full(api.Air)
	l.set(cell{3, 120, 4}, api.Lamp)
	sky, lamp := lit(t, l)
	expect(t, "sky with a lamp", sky, map[cell]int{{3, 120, 4}: 14, {3, 120, 9}: 15})
	expect(t, "a lamp", lamp, map[cell]int{{3, 120, 4}: 14, {3, 120, 9}: 9})

	l = full(api.Air)
	l.set(cell{0, 120, 0}, api.Stone)
	sky, lamp = lit(t, l)
	expect(t, "sky with a stone", sky, map[cell]int{{0, 119, 0}: 14, {0, 120, 0}: 0})
	everywhere(t, "lamps with a stone", lamp, 0)

	l = full(api.Air)
	l.set(cell{5, 120, 5}, api.Gold)
	sky, lamp = lit(t, l)
	expect(t, "sky with gold", sky, map[cell]int{{5, 120, 5}: 0})
	expect(t, "gold", lamp, map[cell]int{{5, 120, 5}: 3, {6, 120, 5}: 2, {7, 120, 5}: 1, {8, 120, 5}: 0})
}

// P18.1, P1: ErrArg and no light, if there are not nine chunks, also where more of them lie behind the list.
func TestFloodOfOtherLengths(t *testing.T) {
	many := append(full(api.Lamp), full(api.Air)...)
	for n := range 19 {
		sky, lamp, e := Flood(many[:n])
		if n != 9 && (e != api.ErrArg || sky != nil || lamp != nil) {
			t.Errorf("of %d chunks: %v, %d and %d cells", n, e, len(sky), len(lamp))
		}
		if n == 9 && (e != api.OK || len(sky) != 32768 || len(lamp) != 32768) {
			t.Errorf("of nine chunks: %v, %d and %d cells", e, len(sky), len(lamp))
		}
	}
	if sky, lamp, e := Flood(nil); e != api.ErrArg || sky != nil || lamp != nil {
		t.Errorf("of nil: %v, %d and %d cells", e, len(sky), len(lamp))
	}
	if sky, lamp, e := Flood(make([]*chunk.Chunk, 8)); e != api.ErrArg || sky != nil || lamp != nil {
		t.Errorf("of eight that are nil: %v, %d and %d cells", e, len(sky), len(lamp))
	}
}

// P18.1, P1: ErrArg and no light, if one of nine or all are nil; the others stay as they are.
func TestFloodOfNil(t *testing.T) {
	for n := range 10 {
		l := full(api.Lamp)
		kept := l.blocks()
		var holed land
		for i, c := range l {
			if i == n || n == 9 {
				c = nil
			}
			holed = append(holed, c)
		}
		if sky, lamp, e := Flood(holed); e != api.ErrArg || sky != nil || lamp != nil {
			t.Errorf("with a nil at %d: %v, %d and %d cells", n, e, len(sky), len(lamp))
		}
		if !slices.EqualFunc(kept, l.blocks(), slices.Equal[[]byte]) || n < 9 && holed[n] != nil {
			t.Errorf("with a nil at %d: the chunks have changed", n)
		}
	}
}

// P18.1: each kind as a layer over all the land, with air above and below it.
func TestRoofs(t *testing.T) {
	for k, of := range table {
		l := full(api.Air)
		l.layer(100, k)
		sky, lamp := lit(t, l)
		for y := range 128 {
			wantSky, wantLamp := 15, max(0, of.emits-max(y-100, 100-y))
			if y <= 100 && !of.clear {
				wantSky = max(0, 15-of.loss-(100-y))
			}
			if y <= 100 && of.shut {
				wantSky = 0
			}
			for _, p := range []cell{{0, y, 0}, {15, y, 15}, {8, y, 5}} {
				if got := int(sky[p.number()]); got != wantSky {
					t.Errorf("under a roof of %d the sky has %d at %v, not %d", k, got, p, wantSky)
				}
				if got := int(lamp[p.number()]); got != wantLamp {
					t.Errorf("a roof of %d has %d at %v, not %d", k, got, p, wantLamp)
				}
			}
		}
	}
}

// P18.1: each kind as a wall in a tunnel, into which light of the sky comes at one end and of a lamp at the other.
func TestWalls(t *testing.T) {
	for k, of := range table {
		l := full(api.Stone)
		l.dig(cell{1, 50, 8}, cell{14, 50, 8})
		l.shaft(cell{0, 50, 8})
		l.set(cell{4, 50, 8}, k)
		sky, lamp := lit(t, l)
		want, shine := map[cell]int{{0, 50, 8}: 15, {1, 50, 8}: 14, {3, 50, 8}: 12}, map[cell]int{}
		for x := 4; x < 15; x++ {
			want[cell{x, 50, 8}] = max(0, 12-of.loss-(x-4))
			if of.shut {
				want[cell{x, 50, 8}] = 0
			}
		}
		for x := 0; x < 15; x++ {
			shine[cell{x, 50, 8}] = max(0, of.emits-max(x-4, 4-x))
		}
		expect(t, "sky behind a wall", sky, want)
		expect(t, "a wall's light", lamp, shine)

		l.set(cell{15, 50, 8}, api.Lamp)
		_, lamp = lit(t, l)
		through := 14 - 10 - of.loss
		if of.shut {
			through = 0
		}
		here := max(of.emits, through)
		expect(t, "a lamp behind a wall", lamp, map[cell]int{
			{15, 50, 8}: 14, {14, 50, 8}: 13, {9, 50, 8}: max(8, of.emits-5), {5, 50, 8}: max(4, of.emits-1), {4, 50, 8}: here, {3, 50, 8}: max(0, here-1),
		})
	}
}

// P18.1: each kind as all that light goes through in a tunnel, on its way along each of the three ways.
func TestThrough(t *testing.T) {
	for k, of := range table {
		for _, w := range ways {
			from := cell{8, 60, 8}
			l := full(api.Stone)
			for n := 1; n < 7; n++ {
				l.set(from.plus(w.times(n)), k)
			}
			l.set(from, api.Lamp)
			sky, lamp := lit(t, l)
			everywhere(t, "sky in a closed tunnel", sky, 0)
			want, level := map[cell]int{from: 14}, 14
			for n := 1; n < 7; n++ {
				level -= of.loss
				if level < 0 || of.shut {
					level = 0
				}
				level = max(level, of.emits)
				want[from.plus(w.times(n))] = level
			}
			expect(t, "a lamp's light on its way", lamp, want)
			if t.Failed() {
				t.Fatalf("of the kind %d along %v", k, w)
			}
		}
	}
}

// P18.1: each kind as a heap within air and within stone, with light from all sides.
func TestHeapsOfKinds(t *testing.T) {
	t.Parallel()
	for k := range table {
		for _, ground := range []int{api.Air, api.Stone} {
			l := full(ground)
			for x := 4; x < 12; x++ {
				for z := 4; z < 12; z++ {
					for y := 60; y < 68; y++ {
						l.set(cell{x, y, z}, k)
					}
				}
			}
			l.set(cell{8, 63, 3}, api.Lamp)
			l.set(cell{12, 66, 10}, api.Lamp)
			l.shaft(cell{3, 64, 8})
			hold(t, l, "a heap of", k, "in", ground)
		}
	}
}

// P18.1: light of the sky falls straight down through what is clear, to the floor; what is not clear ends that, though light goes through it.
func TestSkyStraightDown(t *testing.T) {
	for k, of := range table {
		l := full(api.Stone)
		p := cell{5, 0, 6}
		l.shaft(p)
		l.set(cell{5, 90, 6}, k)
		sky, _ := lit(t, l)
		level := 15
		for y := 127; y >= 0; y-- {
			switch {
			case of.clear || y > 90:
			case of.shut:
				level = 0
			case y == 90:
				level = 15 - of.loss
			default:
				level = max(0, level-1)
			}
			if got := int(sky[cell{5, y, 6}.number()]); got != level {
				t.Fatalf("with %d in the shaft there is %d at %d, not %d", k, got, y, level)
			}
		}
	}
}

// P18.1: glass and air above one another are clear all the way.
func TestSkyThroughGlass(t *testing.T) {
	sky, _ := lit(t, mixed(1, api.Air, 50, api.Glass))
	everywhere(t, "sky in air and glass", sky, 15)
	sky, _ = lit(t, full(api.Glass))
	everywhere(t, "sky in glass", sky, 15)
}

// P18.1: under a roof light of the sky comes in from its sides: the greatest of the four.
func TestSkyUnderRoof(t *testing.T) {
	l := full(api.Air)
	for x := 1; x < 15; x++ {
		for z := 2; z < 15; z++ {
			l.set(cell{x, 80, z}, api.Brick)
		}
	}
	sky, _ := lit(t, l)
	for x := 1; x < 15; x++ {
		for z := 2; z < 15; z++ {
			for _, y := range []int{0, 40, 79} {
				want := 15 - min(x, 15-x, z-1, 15-z)
				if got := int(sky[cell{x, y, z}.number()]); got != want {
					t.Errorf("at %d, %d, %d the sky has %d, not %d", x, y, z, got, want)
				}
			}
		}
	}
}

// borders are the eight chunks about the fifth one: which way they lie, and the cell of the fifth one that is next to each.
func borders() []struct{ way, next cell } {
	var l []struct{ way, next cell }
	edge := map[int]int{-1: 0, 0: 7, 1: 15}
	for dz := -1; dz < 2; dz++ {
		for dx := -1; dx < 2; dx++ {
			if dx != 0 || dz != 0 {
				l = append(l, struct{ way, next cell }{cell{x: dx, z: dz}, cell{edge[dx], 70, edge[dz]}})
			}
		}
	}
	return l
}

// tunnels are nine chunks of stone, with a tunnel from a cell so far beyond a border or a corner into the fifth chunk, and its cells in order.
func tunnels(way, next cell, far int) (land, []cell) {
	l := full(api.Stone)
	corner := next.plus(cell{x: way.x * far})
	return l, l.dig(corner.plus(cell{z: way.z * far}), corner, next, next.plus(cell{y: -5}))
}

// P18.1, P18.2: light of the sky comes in from each of the eight other chunks, over a border and over a corner, a step less bright with each cell, and not farther than 14 cells.
func TestSkyOverBorders(t *testing.T) {
	for _, b := range borders() {
		for far := 1; far < 17; far++ {
			l, path := tunnels(b.way, b.next, far)
			l.shaft(path[0])
			sky, lamp := lit(t, l)
			everywhere(t, "lamps without any", lamp, 0)
			holdPath(t, "sky", sky, path, 15)
			if t.Failed() {
				t.Fatalf("from the side %v, %d away", b.way, far)
			}
		}
	}
}

// P18.1, P18.2: light of lamps comes in from each of the eight other chunks, and from the fifth one too, not farther than 13 cells.
func TestLampsOverBorders(t *testing.T) {
	for _, b := range borders() {
		for far := 1; far < 17; far++ {
			l, path := tunnels(b.way, b.next, far)
			l.set(path[0], api.Lamp)
			sky, lamp := lit(t, l)
			everywhere(t, "sky under the ground", sky, 0)
			holdPath(t, "lamp", lamp, path, 14)
			if t.Failed() {
				t.Fatalf("from the side %v, %d away", b.way, far)
			}
		}
	}
}

// holdPath holds each cell of the fifth chunk: those of a path have a step less with each, all others nothing.
func holdPath(t *testing.T, name string, light []byte, path []cell, first int) {
	t.Helper()
	want := make([]byte, 32768)
	for i, p := range path {
		if p.own() {
			want[p.number()] = byte(max(0, first-i))
		}
	}
	for i := range want {
		if light[i] != want[i] {
			t.Errorf("%s: the place %d has %d, not %d", name, i, light[i], want[i])
			return
		}
	}
}

// P18.1, P18.2: a path within the fifth chunk, as long as light reaches and longer, with turns along each way.
func TestWindingPaths(t *testing.T) {
	corners := []cell{{2, 30, 2}, {2, 30, 7}, {6, 30, 7}, {6, 34, 7}, {6, 34, 2}, {9, 34, 2}}
	for _, turned := range [][]cell{corners, reflected(corners)} {
		l := full(api.Stone)
		path := l.dig(turned...)
		l.set(path[0], api.Lamp)
		sky, lamp := lit(t, l)
		everywhere(t, "sky under the ground", sky, 0)
		holdPath(t, "lamp", lamp, path, 14)

		l.shaft(path[0])
		sky, lamp = lit(t, l)
		for y := 31; y < 128; y++ {
			sky[path[0].plus(cell{y: y - 30}).number()] = 0
		}
		holdPath(t, "sky", sky, path, 15)
		everywhere(t, "lamps without any", lamp, 0)
	}
}

// reflected are cells as a mirror has them, on the other side of the chunk in both ways. They go downwards no farther than before.
func reflected(l []cell) []cell {
	var all []cell
	for _, p := range l {
		all = append(all, cell{15 - p.x, p.y, 15 - p.z})
	}
	return all
}

// P18.1: a lamp in air anywhere in the nine chunks: each cell of the fifth one is as bright as it is near, over borders too.
func TestLampInAir(t *testing.T) {
	places := []cell{{8, 60, 8}, {0, 0, 0}, {15, 127, 15}, {0, 127, 15}, {3, 1, 14}}
	for _, b := range borders() {
		for _, far := range []int{1, 6, 7, 12, 13, 14, 16} {
			places = append(places, b.next.plus(b.way.times(far)))
		}
	}
	for _, at := range places {
		l := full(api.Air)
		l.set(at, api.Lamp)
		_, lamp := lit(t, l)
		for _, p := range owns() {
			if got, want := int(lamp[p.number()]), max(0, 14-p.away(at)); got != want {
				t.Fatalf("of a lamp at %v there is %d at %v, not %d", at, got, p, want)
			}
		}
	}
}

// P18.1: where the light of lamps meets, the greater of both counts.
func TestTwoLampsMeet(t *testing.T) {
	for apart := 1; apart < 16; apart++ {
		l := full(api.Stone)
		l.dig(cell{0, 20, 4}, cell{15, 20, 4})
		l.set(cell{0, 20, 4}, api.Lamp)
		l.set(cell{apart, 20, 4}, api.Lamp)
		_, lamp := lit(t, l)
		want := map[cell]int{}
		for x := range 16 {
			want[cell{x, 20, 4}] = max(14-x, 14-max(x-apart, apart-x))
		}
		expect(t, "two lamps", lamp, want)
	}
	a, b := cell{-3, 60, 5}, cell{9, 64, 18}
	l := full(api.Air)
	l.set(a, api.Lamp)
	l.set(b, api.Lamp)
	_, lamp := lit(t, l)
	for _, p := range owns() {
		if got, want := int(lamp[p.number()]), max(0, 14-p.away(a), 14-p.away(b)); got != want {
			t.Fatalf("of two lamps in other chunks there is %d at %v, not %d", got, p, want)
		}
	}
}

// P18.1: gold is as bright as it is, however bright it is beside it, and what is beside it takes from it what it gives.
func TestGoldBesideLamps(t *testing.T) {
	l := full(api.Stone)
	l.dig(cell{0, 20, 4}, cell{15, 20, 4})
	l.set(cell{2, 20, 4}, api.Lamp)
	l.set(cell{3, 20, 4}, api.Gold)
	_, lamp := lit(t, l)
	expect(t, "gold beside a lamp", lamp, map[cell]int{{0, 20, 4}: 12, {1, 20, 4}: 13, {2, 20, 4}: 14, {3, 20, 4}: 3, {4, 20, 4}: 2, {5, 20, 4}: 1, {6, 20, 4}: 0})
	_, lamp = lit(t, full(api.Gold))
	everywhere(t, "all gold", lamp, 3)
	sky, lamp := lit(t, full(api.Lamp))
	everywhere(t, "all lamps", lamp, 14)
	everywhere(t, "sky within lamps", sky, 0)
}

// P18.1: a lamp within opaque cells of each kind, and of None, lights none of them.
func TestLampWithinOpaque(t *testing.T) {
	for k, of := range table {
		if !of.shut {
			continue
		}
		at := cell{0, 64, 15}
		l := full(k)
		l.set(at, api.Lamp)
		sky, lamp := lit(t, l)
		everywhere(t, "sky in opaque cells", sky, 0)
		expect(t, "a lamp in opaque cells", lamp, map[cell]int{at: 14})
		lamp[at.number()] = byte(of.emits)
		everywhere(t, "a lamp's opaque neighbours", lamp, of.emits)
	}
}

// P18.1: at the floor and at the top of the world cells have no neighbours beyond: no light comes from there, not of the sky either, and none from the other end.
func TestFloorAndTop(t *testing.T) {
	t.Parallel()
	for k, of := range table {
		l := full(api.Air)
		l.layer(127, k)
		sky, _ := lit(t, l)
		want := 0 // also of what light goes through, since the layer below it has nothing to give
		if of.clear {
			want = 15
		}
		for y := range 128 {
			if got := int(sky[cell{7, y, 7}.number()]); got != want {
				t.Fatalf("with the kind %d at the top there is %d at %d, not %d", k, got, y, want)
			}
		}
		l = full(api.Air)
		l.set(cell{7, 127, 7}, k)
		hold(t, l, "one at the top of", k)
		l.set(cell{7, 0, 7}, k)
		hold(t, l, "one at the top and one at the floor of", k)
	}
	for _, y := range []int{0, 127} {
		l := full(api.Stone)
		l.layer(0, api.Air)
		l.layer(127, api.Air)
		l.set(cell{7, y, 7}, api.Lamp)
		_, lamp := lit(t, l)
		for _, p := range owns() {
			want := 0
			if p.y == y {
				want = max(0, 14-p.away(cell{7, y, 7}))
			}
			if got := int(lamp[p.number()]); got != want {
				t.Fatalf("of a lamp at the height %d there is %d at %v, not %d", y, got, p, want)
			}
		}
	}
}

// P18.1, P18.2: lamps and the sky at the outer border of the nine chunks, where cells have no neighbours beyond: none of it comes as far as the fifth chunk, nor in by the other side.
func TestOuterBorder(t *testing.T) {
	l := full(api.Air)
	l.layer(127, api.Stone)
	for i := -16; i < 32; i++ {
		for y := range 127 {
			for _, p := range []cell{{-16, y, i}, {31, y, i}, {i, y, -16}, {i, y, 31}} {
				l.set(p, api.Lamp)
			}
		}
	}
	sky, lamp := lit(t, l)
	everywhere(t, "sky under a whole roof", sky, 0)
	everywhere(t, "lamps at the outer border", lamp, 0)
	for i := -16; i < 32; i++ {
		for _, p := range []cell{{-16, 127, i}, {31, 127, i}, {i, 127, -16}, {i, 127, 31}} {
			l.set(p, api.Air)
		}
	}
	hold(t, l, "with the roof open at the outer border")
	sky, lamp = lit(t, l)
	everywhere(t, "sky at the outer border", sky, 0)
	everywhere(t, "lamps at the outer border again", lamp, 0)
	hold(t, mixed(3, api.Stone, 60, api.Air, api.Air, api.Lamp, api.Water), "with holes in all walls")
}

// P18.1: nine chunks, each of its own kind.
func TestFloodOfOtherChunks(t *testing.T) {
	t.Parallel()
	for k := range table {
		l := full(api.Air)
		l[4] = chunk.Full(k)
		hold(t, l, "among air, the kind", k)
		l = full(k)
		l[4] = chunk.New()
		hold(t, l, "air, among the kind", k)
		for n := range l {
			l[n] = chunk.Full((k + n*4) % 17)
		}
		hold(t, l, "each of its own, from", k)
	}
}

// P18.1: cells of many kinds, few and many of them, in what light goes through and in what it does not.
func TestFloodOfMixtures(t *testing.T) {
	t.Parallel()
	open := []int{api.Air, api.Water, api.Leaves, api.Glass, api.Lamp}
	for i, percent := range []int{1, 5, 20, 50, 80, 95, 100} {
		n := int64(i) * 10
		hold(t, mixed(n, api.Air, percent, everyKind()...), percent, "of all kinds in air")
		hold(t, mixed(n+1, api.Stone, percent, everyKind()...), percent, "of all kinds in stone")
		hold(t, mixed(n+2, api.Water, percent, everyKind()...), percent, "of all kinds in water")
		hold(t, mixed(n+3, api.Stone, percent, open...), percent, "of what is open in stone")
		hold(t, mixed(n+4, api.Stone, percent, api.Air, api.Air, api.Air, api.Leaves, api.Gold), percent, "of air in stone")
		hold(t, mixed(n+5, api.Leaves, percent, api.Glass, api.None), percent, "of glass and None in leaves")
	}
}

// P18.1: hills with pools, holes, roofs of many kinds and lamps; so also when each of the nine comes with other hills.
func TestFloodOfHills(t *testing.T) {
	t.Parallel()
	for n := range int64(12) {
		l := hills(n)
		hold(t, l, "hills", n)
		for i := range l {
			l[i] = hills(n*9 + int64(i))[i]
		}
		hold(t, l, "pieces of hills", n)
	}
}

// grown is a chunk of a seed as the stages make it.
func grown(seed uint64, c api.At) *chunk.Chunk {
	var laid []*chunk.Chunk
	var heights, bands [][]int
	for _, at := range grid.Near(c, 1) {
		h, b := height.Map(seed, at)
		x, _ := strata.Fill(h, b)
		laid, heights, bands = append(laid, x), append(heights, h), append(bands, b)
	}
	x, _ := caves.Carve(seed, c, laid)
	x, _ = veins.Apply(seed, c, x)
	x, _ = build.Apply(seed, c, x, heights, bands)
	return x
}

// P18.1: chunks as the stages make them.
func TestFloodOfGrownChunks(t *testing.T) {
	for i, c := range []api.At{{}, {X: -1, Z: -1}, {X: 37, Z: -20}, {X: 65536, Z: -65536}} {
		var l land
		for _, at := range grid.Near(c, 1) {
			l = append(l, grown(uint64(i), at))
		}
		hold(t, l, "as grown at", c)
	}
}

// patterned is nine chunks by a rule that is short in any language: a cell is of one of a hundred kinds, most of them air or stone, by a number that is made of its place.
func patterned(seed int) land {
	l := full(api.Air)
	for x := -16; x < 32; x++ {
		for z := -16; z < 32; z++ {
			for y := range 128 {
				n := uint32((x+16)*73856093) ^ uint32(y*19349663) ^ uint32((z+16)*83492791) ^ uint32(seed*2654435761)
				n ^= n >> 15
				n *= 2246822519
				n ^= n >> 13
				n *= 3266489917
				n ^= n >> 16
				k := int(n % 100)
				switch {
				case k < 17:
				case k < 17+seed:
					k = api.Stone
				default:
					k = api.Air
				}
				l.set(cell{x, y, z}, k)
			}
		}
	}
	return l
}

// P18.1: light of patterns, worked out apart from this program and in another language: what all levels make together, and the sum of all.
func TestFloodKnown(t *testing.T) {
	for _, p := range []struct {
		seed         int
		sky, lamp    int
		skies, lamps uint32
	}{
		{0, 98610, 297026, 0xed5a8f95, 0xa9526d85},
		{20, 33389, 221565, 0x50dfd28a, 0xa0456db6},
		{60, 1930, 34131, 0x25dbcb59, 0x1b8b9d3c},
		{80, 307, 8330, 0x28af45a2, 0xe81728db},
	} {
		sky, lamp := lit(t, patterned(p.seed))
		if total(sky) != p.sky || total(lamp) != p.lamp || num.Sum(sky) != p.skies || num.Sum(lamp) != p.lamps {
			t.Errorf("of the pattern %d: %d and %d in all, with the sums %08x and %08x", p.seed, total(sky), total(lamp), num.Sum(sky), num.Sum(lamp))
		}
	}
}

// total is what numbers are in all.
func total(b []byte) int {
	n := 0
	for _, v := range b {
		n += int(v)
	}
	return n
}

// P18.1, P18.2: of what Flood answers alone: each cell within the chunk has what its neighbours and its own kind make it, and, but where the sky or a lamp shines, at most one less than the brightest of them.
func TestNeighbours(t *testing.T) {
	for n := range int64(6) {
		for _, l := range []land{hills(n), mixed(n, api.Air, int(n)*15+5, everyKind()...)} {
			sky, lamp := lit(t, l)
			for _, p := range owns() {
				if p.x > 0 && p.x < 15 && p.z > 0 && p.z < 15 && p.y > 0 && p.y < 127 {
					holdNeighbours(t, l, p, sky, lamp)
				}
			}
		}
	}
}

// holdNeighbours holds a cell against those about it.
func holdNeighbours(t *testing.T, l land, p cell, sky, lamp []byte) {
	t.Helper()
	of := table[l.kind(p)]
	most := [2]int{}
	for _, w := range ways {
		most[0] = max(most[0], int(sky[p.plus(w).number()]))
		most[1] = max(most[1], int(lamp[p.plus(w).number()]))
	}
	shines := [2]int{0, of.emits}
	if open(l, p) {
		shines[0] = 15
	}
	for i, got := range []int{int(sky[p.number()]), int(lamp[p.number()])} {
		want := shines[i]
		if !of.shut {
			want = max(want, most[i]-of.loss)
		}
		if got != want || got > max(shines[i], most[i]-1) {
			t.Fatalf("at %v %d of the kind %d has %d among %d, not %d", p, i, l.kind(p), got, most[i], want)
		}
	}
}

// open tells whether a cell and all above it are clear.
func open(l land, p cell) bool {
	for ; p.y < 128; p.y++ {
		if !table[l.kind(p)].clear {
			return false
		}
	}
	return true
}

// P18.2: what stands in columns that are 15 and more away from the chunk changes nothing, whatever it is.
func TestFarColumnsChangeNothing(t *testing.T) {
	r := rand.New(rand.NewSource(18))
	for n := range int64(10) {
		for _, l := range []land{hills(n), mixed(n, api.Air, int(n)*2, everyKind()...)} {
			sky, lamp := lit(t, l)
			other := l.copy()
			for x := -16; x < 32; x++ {
				for z := -16; z < 32; z++ {
					if max(0, -x, x-15)+max(0, -z, z-15) < 15 {
						continue
					}
					for y := range 128 {
						other.set(cell{x, y, z}, []int{r.Intn(17), api.Air, api.Lamp, api.Stone}[n%4])
					}
				}
			}
			otherSky, otherLamp := lit(t, other)
			if !slices.Equal(sky, otherSky) || !slices.Equal(lamp, otherLamp) {
				t.Fatalf("the land %d: what is far away changes the light", n)
			}
		}
	}
}

// P18.2: what stands 14 cells away may change light of the sky, and 13 away that of lamps, at each side and at each corner.
func TestNearColumnsChangeSomething(t *testing.T) {
	for _, b := range borders() {
		steps := max(b.way.x, -b.way.x) + max(b.way.z, -b.way.z)
		l, path := tunnels(b.way, b.next, 14/steps)
		l.shaft(path[0])
		if sky, _ := lit(t, l); sky[b.next.number()] != 1 {
			t.Errorf("from the side %v the sky has %d where it comes in", b.way, sky[b.next.number()])
		}
		l, path = tunnels(b.way, b.next, 13/steps)
		l.set(path[0], api.Lamp)
		if _, lamp := lit(t, l); int(lamp[b.next.number()]) != 14-13/steps*steps {
			t.Errorf("from the side %v a lamp gives %d where it comes in", b.way, lamp[b.next.number()])
		}
	}
}

// P18.2: nobody's light reaches farther than 15 cells: one cell that becomes another changes nothing farther from it, but where the sky shines below it.
func TestOneCellReachesNotFar(t *testing.T) {
	r := rand.New(rand.NewSource(15))
	for n := range int64(20) {
		l := hills(n)
		sky, lamp := lit(t, l)
		at := cell{r.Intn(48) - 16, 15 + r.Intn(20), r.Intn(48) - 16}
		l.set(at, []int{api.Air, api.Lamp, api.Stone, api.Water}[n%4])
		otherSky, otherLamp := lit(t, l)
		for _, p := range owns() {
			i, low := p.number(), at
			if p.y < at.y { // what was lit from above the cell may be dark now, and what was dark lit
				low.y = p.y
			}
			if lamp[i] != otherLamp[i] && p.away(at) > 14 || sky[i] != otherSky[i] && p.away(low) > 14 {
				t.Fatalf("the hills %d: the cell %v changes the light at %v", n, at, p)
			}
		}
	}
}

// P18.1: the nine are in grid's order: a lamp in the midst of one shines over its own side.
func TestOrderOfTheNine(t *testing.T) {
	for n, c := range grid.Near(api.At{}, 1) {
		l := full(api.Air)
		at := cell{c.X*16 + 8 - c.X*6, 64, c.Z*16 + 8 - c.Z*6}
		l[n].Set(64*256+(8-c.Z*6)*16+8-c.X*6, api.Lamp)
		_, lamp := lit(t, l)
		for _, p := range owns() {
			if got, want := int(lamp[p.number()]), max(0, 14-p.away(at)); got != want {
				t.Fatalf("of a lamp in the chunk %d there is %d at %v, not %d", n, got, p, want)
			}
		}
	}
}

// P18.1, R3: one chunk may be handed in nine times.
func TestFloodOfOneChunk(t *testing.T) {
	one := hills(5)[4]
	var l land
	for range 9 {
		l = append(l, one)
	}
	hold(t, l, "one chunk nine times")
}

// R3: what is done to an answer is done to nothing else, nor is what is done to the chunks that were handed in; two answers share nothing.
func TestAnswersAreTheirOwn(t *testing.T) {
	l := hills(8)
	blocks := l.blocks()
	sky, lamp := lit(t, l)
	keptSky, keptLamp := slices.Clone(sky), slices.Clone(lamp)
	again, lampAgain := lit(t, l)
	if !slices.Equal(sky, again) || !slices.Equal(lamp, lampAgain) {
		t.Error("two calls answer otherwise")
	}
	for i := range again[:cap(again)] {
		again[:cap(again)][i] = 99
	}
	if !slices.Equal(lampAgain, keptLamp) {
		t.Error("light of the sky and of lamps share cells")
	}
	for i := range lampAgain[:cap(lampAgain)] {
		lampAgain[:cap(lampAgain)][i] = 77
	}
	if !slices.Equal(sky, keptSky) || !slices.Equal(lamp, keptLamp) {
		t.Error("two calls' answers share cells")
	}
	if !slices.EqualFunc(blocks, l.blocks(), slices.Equal[[]byte]) {
		t.Error("an answer shares cells with a chunk")
	}
	third, lampThird := lit(t, l)
	if !slices.Equal(third, keptSky) || !slices.Equal(lampThird, keptLamp) {
		t.Error("what was done to an answer changes a later one")
	}
	for _, c := range l {
		c.Fill(0, 127, api.Lamp)
	}
	if !slices.Equal(sky, keptSky) || !slices.Equal(lamp, keptLamp) {
		t.Error("what is done to a chunk changes an answer")
	}
}

// R5: nothing hangs on what was asked before, not on what was refused either.
func TestNothingIsKept(t *testing.T) {
	var kept [][]byte
	for n := range int64(5) {
		sky, lamp := lit(t, hills(n))
		kept = append(kept, sky, lamp)
	}
	for n := int64(4); n >= 0; n-- {
		Flood(full(api.Lamp)[:8])
		lit(t, full(api.Lamp))
		lit(t, full(api.Stone))
		sky, lamp := lit(t, hills(n))
		if !slices.Equal(sky, kept[2*n]) || !slices.Equal(lamp, kept[2*n+1]) {
			t.Errorf("the hills %d are told otherwise the second time", n)
		}
	}
}
