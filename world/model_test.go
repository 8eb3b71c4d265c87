package world

import (
	"bytes"
	"maps"
	"slices"
	"testing"

	"outcrop/api"
	"outcrop/build"
	"outcrop/caves"
	"outcrop/chunk"
	"outcrop/codec"
	"outcrop/disk"
	"outcrop/grid"
	"outcrop/height"
	"outcrop/light"
	"outcrop/store"
	"outcrop/strata"
	"outcrop/veins"
)

// ground is what the layers below make of the chunks of a seed, apart from what a world keeps.
type ground struct {
	seed           uint64
	heights, bands map[api.At][]int
	laid, blocks   map[api.At]*chunk.Chunk
}

// grounds are kept from test to test, since they hang on the seed alone.
var grounds = map[uint64]*ground{}

// groundOf is the ground of a seed.
func groundOf(seed uint64) *ground {
	if grounds[seed] == nil {
		grounds[seed] = &ground{seed, map[api.At][]int{}, map[api.At][]int{}, map[api.At]*chunk.Chunk{}, map[api.At]*chunk.Chunk{}}
	}
	return grounds[seed]
}

// nine are the chunks about one, and that one.
func nine(c api.At) []api.At {
	var l []api.At
	for z := c.Z - 1; z <= c.Z+1; z++ {
		for x := c.X - 1; x <= c.X+1; x++ {
			l = append(l, api.At{X: x, Z: z})
		}
	}
	return l
}

// strata is a chunk's ground ahead of its caves.
func (g *ground) strata(c api.At) *chunk.Chunk {
	if g.laid[c] == nil {
		g.heights[c], g.bands[c] = height.Map(g.seed, c)
		g.laid[c], _ = strata.Fill(g.heights[c], g.bands[c])
	}
	return g.laid[c]
}

// generated are a chunk's blocks without edits.
func (g *ground) generated(c api.At) *chunk.Chunk {
	if g.blocks[c] == nil {
		var near []*chunk.Chunk
		var heights, bands [][]int
		for _, at := range nine(c) {
			near = append(near, g.strata(at))
			heights, bands = append(heights, g.heights[at]), append(bands, g.bands[at])
		}
		hollow, _ := caves.Carve(g.seed, c, near)
		ores, _ := veins.Apply(g.seed, c, hollow)
		g.blocks[c], _ = build.Apply(g.seed, c, ores, heights, bands)
	}
	return g.blocks[c]
}

// table is the kinds of edited cells, by chunk and place.
type table map[api.At]map[int]int

// copied is a table that shares nothing with the one that it is of.
func (x table) copied() table {
	y := table{}
	for c, l := range x {
		if len(l) > 0 {
			y[c] = maps.Clone(l)
		}
	}
	return y
}

// cells are a chunk's edits, None elsewhere.
func (x table) cells(c api.At) *chunk.Chunk {
	edits := chunk.Full(api.None)
	for i, k := range x[c] {
		edits.Set(i, k)
	}
	return edits
}

// sectors are how many a chunk's edits need.
func (x table) sectors(c api.At) int {
	if len(x[c]) == 0 {
		return 0
	}
	return (len(codec.Encode(x.cells(c))) + 31) / 32
}

// full tells whether a chunk's region has more sectors than it may.
func (x table) full(c api.At) bool {
	all := 2
	for slot := range 16 {
		all += x.sectors(api.At{X: c.X&^3 + slot%4, Z: c.Z&^3 + slot/4})
	}
	return all > 40
}

// equal tells whether two tables are the same.
func (x table) equal(y table) bool {
	return maps.EqualFunc(x.copied(), y.copied(), maps.Equal)
}

// model is what a world should be: a list of edits over the ground, and which of its chunks are dirty.
type model struct {
	g            *ground
	edits, saved table
	dirty        map[api.At]bool
}

func modelOf(seed uint64) *model {
	return &model{groundOf(seed), table{}, table{}, map[api.At]bool{}}
}

// final is a chunk as it is with its edits.
func (m *model) final(c api.At) *chunk.Chunk {
	x := m.g.generated(c)
	if len(m.edits[c]) > 0 {
		x = x.Copy()
		for i, k := range m.edits[c] {
			x.Set(i, k)
		}
	}
	return x
}

// chunkOf and placeOf are where a cell is, told apart from the program.
func chunkOf(p api.Pos) api.At { return api.At{X: p.X >> 4, Z: p.Z >> 4} }

func placeOf(p api.Pos) int { return p.Y<<8 | p.Z&15<<4 | p.X&15 }

// get is the block of a cell.
func (m *model) get(p api.Pos) int {
	if k, is := m.edits[chunkOf(p)][placeOf(p)]; is {
		return k
	}
	return m.g.generated(chunkOf(p)).Get(placeOf(p))
}

// scan is the blocks of a box: x first, then z, then y.
func (m *model) scan(b api.Box) []byte {
	var l []byte
	for y := b.A.Y; y <= b.B.Y; y++ {
		for z := b.A.Z; z <= b.B.Z; z++ {
			for x := b.A.X; x <= b.B.X; x++ {
				l = append(l, byte(m.get(api.Pos{X: x, Y: y, Z: z})))
			}
		}
	}
	return l
}

// shine is the light of all cells of a chunk.
func (m *model) shine(c api.At) (sky, lamps []byte) {
	var near []*chunk.Chunk
	for _, at := range nine(c) {
		near = append(near, m.final(at))
	}
	sky, lamps, _ = light.Flood(near)
	return sky, lamps
}

// light is a cell's light.
func (m *model) light(p api.Pos) (int, int) {
	sky, lamps := m.shine(chunkOf(p))
	return int(sky[placeOf(p)]), int(lamps[placeOf(p)])
}

// set is what Set of a cell in the world, of a kind that there is, answers while the power is there.
func (m *model) set(p api.Pos, k int) api.Errno {
	c, i := chunkOf(p), placeOf(p)
	if m.get(p) == k {
		return api.OK
	}
	was := maps.Clone(m.edits[c])
	if m.edits[c] == nil {
		m.edits[c] = map[int]int{}
	}
	if m.g.generated(c).Get(i) == k {
		delete(m.edits[c], i)
	} else {
		m.edits[c][i] = k
	}
	if m.edits.full(c) {
		m.edits[c] = was
		return api.ErrRegionFull
	}
	if !m.dirty[c] && len(m.dirty) == 4 {
		now := m.edits[c]
		m.edits[c] = was
		m.save()
		m.edits[c] = now
	}
	m.dirty[c] = true
	return api.OK
}

// saves tells whether such a Set saves edits.
func (m *model) saves(p api.Pos, k int) bool {
	if m.get(p) == k || m.dirty[chunkOf(p)] || len(m.dirty) < 4 {
		return false
	}
	x := &model{m.g, m.edits.copied(), m.saved, maps.Clone(m.dirty)}
	return x.set(p, k) == api.OK
}

// save is all edits' being saved.
func (m *model) save() { m.saved, m.dirty = m.edits.copied(), map[api.At]bool{} }

// lose is what was not saved being gone.
func (m *model) lose() { m.edits, m.dirty = m.saved.copied(), map[api.At]bool{} }

// begun is a disk's world.
func begun(t *testing.T, seed uint64, most int, d *disk.Disk) *World {
	t.Helper()
	w, e := New(seed, most, d)
	if e != api.OK || w == nil {
		t.Fatalf("New(%d, %d): %v, error %d", seed, most, w, e)
	}
	return w
}

// onDisk are the edits that a disk has, of all chunks of its regions. Nothing is written for that.
func onDisk(t *testing.T, d *disk.Disk) table {
	t.Helper()
	before := d.Writes()
	s, e := store.Open(d)
	if e != api.OK {
		t.Fatalf("store: error %d", e)
	}
	x := table{}
	for _, f := range d.Files() {
		for slot := range 16 {
			if c := (api.At{X: f.X*4 + slot%4, Z: f.Z*4 + slot/4}); f.Kind == api.FileRegion {
				x.load(t, s, c)
			}
		}
	}
	if d.Writes() != before {
		t.Errorf("a disk whose journal was not done: %d blocks", d.Writes()-before)
	}
	return x
}

// load takes in a chunk's edits that a store has.
func (x table) load(t *testing.T, s *store.Store, c api.At) {
	t.Helper()
	edits, e := s.Load(c)
	if e != api.OK {
		t.Fatalf("Load of %v: error %d", c, e)
	}
	for i, k := range edits.Bytes() {
		if k != api.None {
			if x[c] == nil {
				x[c] = map[int]int{}
			}
			x[c][i] = int(k)
		}
	}
}

// write lays edits onto a disk, ahead of any world.
func write(t *testing.T, d *disk.Disk, x table) {
	t.Helper()
	s, e := store.Open(d)
	if e != api.OK {
		t.Fatalf("store: error %d", e)
	}
	var l []api.Edit
	for c := range x {
		l = append(l, api.Edit{C: c, Cells: x.cells(c).Bytes()})
	}
	if e := s.Save(l); e != api.OK {
		t.Fatalf("Save: error %d", e)
	}
}

// copyOf is another disk with the same blocks, whose power is there.
func copyOf(t *testing.T, d *disk.Disk) *disk.Disk {
	t.Helper()
	other := disk.New()
	for _, f := range d.Files() {
		for i := range d.Len(f) {
			b, e := d.Read(f, i)
			if e != api.OK || other.Write(f, i, b) != api.OK {
				t.Fatalf("block %d of %v: error %d", i, f, e)
			}
		}
	}
	return other
}

// gets checks a cell's block.
func gets(t *testing.T, what string, w *World, p api.Pos, want int) {
	t.Helper()
	if k, e := w.Get(p); k != want || e != api.OK {
		t.Errorf("%s: Get(%v): %d, error %d, not %d", what, p, k, e, want)
	}
}

// shines checks a cell's light.
func shines(t *testing.T, what string, w *World, m *model, p api.Pos) {
	t.Helper()
	sky, lamps := m.light(p)
	if s, l, e := w.Light(p); s != sky || l != lamps || e != api.OK {
		t.Errorf("%s: Light(%v): %d, %d, error %d, not %d, %d", what, p, s, l, e, sky, lamps)
	}
}

// scans checks a box's blocks.
func scans(t *testing.T, what string, w *World, m *model, b api.Box) {
	t.Helper()
	if l, e := w.Scan(b); !bytes.Equal(l, m.scan(b)) || e != api.OK {
		t.Errorf("%s: Scan(%v): %d cells, error %d, other ones than %d", what, b, len(l), e, len(m.scan(b)))
	}
}

// sets checks what a Set answers and saves, and lets the model have it too.
func sets(t *testing.T, what string, w *World, m *model, p api.Pos, k int) api.Errno {
	t.Helper()
	before, saves := w.Stat().Writes, m.saves(p, k)
	want := m.set(p, k)
	if e := w.Set(p, k); e != want {
		t.Fatalf("%s: Set(%v, %d): %d, not %d", what, p, k, e, want)
	}
	if wrote := w.Stat().Writes - before; saves != (wrote > 0) {
		t.Errorf("%s: Set(%v, %d) wrote %d blocks", what, p, k, wrote)
	}
	if many := w.Stat().Dirty; many != len(m.dirty) {
		t.Errorf("%s: Set(%v, %d): %d dirty, not %d", what, p, k, many, len(m.dirty))
	}
	return want
}

// keeps checks that what stands on the disk is what was saved, and what is dirty.
func keeps(t *testing.T, what string, w *World, m *model) {
	t.Helper()
	if !onDisk(t, w.disk).equal(m.saved) {
		t.Errorf("%s: other edits on the disk", what)
	}
	if many := w.Stat().Dirty; many != len(m.dirty) {
		t.Errorf("%s: %d dirty, not %d", what, many, len(m.dirty))
	}
	if got := slices.Collect(maps.Keys(w.dirty)); len(got) != len(m.dirty) || slices.ContainsFunc(got, func(c api.At) bool { return !m.dirty[c] }) {
		t.Errorf("%s: dirty are %v, not %v", what, got, m.dirty)
	}
}

// answers checks a call's error.
func answers(t *testing.T, what string, e, want api.Errno) {
	t.Helper()
	if e != want {
		t.Errorf("%s: %d, not %d", what, e, want)
	}
}

// at is a cell of a chunk, high above the ground.
func at(c api.At, i int) api.Pos { return grid.Cell(c, 110*256+i) }

// cell is a place in short.
func cell(x, y, z int) api.Pos { return api.Pos{X: x, Y: y, Z: z} }

// dots are edits of so many cells high above the ground, no two side by side.
func dots(n, kind int) map[int]int {
	l := map[int]int{}
	for i := range n {
		l[110*256+2*i+1] = kind
	}
	return l
}

// filling are edits that need just so many sectors, as many of them as may be.
func filling(c api.At, sectors, kind int) map[int]int {
	for n := 8*sectors + 4; ; n-- {
		if l := dots(n, kind); (table{c: l}).sectors(c) == sectors {
			return l
		}
	}
}
