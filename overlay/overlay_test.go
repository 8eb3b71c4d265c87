package overlay

import (
	"bytes"
	"math"
	"math/rand"
	"slices"
	"testing"

	"outcrop/api"
	"outcrop/chunk"
	"outcrop/num"
)

// model is what an overlay should be, told apart from the program: the kinds that were generated and those that are shown. A cell is edited where these differ.
type model struct {
	gen, shown []byte
	dirty      bool
}

// modelOf is the model of generated cells with edits: 16 where there are none.
func modelOf(gen, edits []byte) *model {
	m := &model{gen: slices.Clone(gen), shown: slices.Clone(gen)}
	for i, k := range edits {
		if k != 16 {
			m.shown[i] = k
		}
	}
	return m
}

// set lets a cell show another kind, and tells the error.
func (m *model) set(i, k int) api.Errno {
	if i < 0 || i > 32767 {
		return 1
	}
	if k < 0 || k > 15 {
		return 10
	}
	if int(m.shown[i]) != k {
		m.shown[i], m.dirty = byte(k), true
	}
	return 0
}

// edits are the kinds of the cells that are edited, 16 elsewhere, and how many they are.
func (m *model) edits() ([]byte, int) {
	l, many := full(16), 0
	for i, k := range m.shown {
		if k != m.gen[i] {
			l[i] = k
			many++
		}
	}
	return l, many
}

// full are cells of one kind.
func full(k int) []byte { return slices.Repeat([]byte{byte(k)}, 32768) }

// mixed are cells of all kinds from 0 to 16, in no simple order.
func mixed(turn int) []byte {
	b := make([]byte, 32768)
	for i := range b {
		b[i] = byte((i*7 + i/17*3 + i/256*5 + turn) % 17)
	}
	return b
}

// pairs are cells that were generated, and edits: each kind beside each other one, many times over.
func pairs() (gen, edits []byte) {
	gen, edits = make([]byte, 32768), make([]byte, 32768)
	for i := range gen {
		gen[i], edits[i] = byte(i%17), byte(i/17%17)
	}
	return gen, edits
}

// sparse are edits of which about one cell of so many is none of None.
func sparse(r *rand.Rand, one int) []byte {
	b := full(16)
	for i := range b {
		if r.Intn(one) == 0 {
			b[i] = byte(r.Intn(17))
		}
	}
	return b
}

// from is the chunk of bytes that make one; of none it is none.
func from(t *testing.T, b []byte) *chunk.Chunk {
	t.Helper()
	if b == nil {
		return nil
	}
	c, e := chunk.From(b)
	if c == nil || e != api.OK {
		t.Fatalf("From: error %d", e)
	}
	return c
}

// over is the overlay of these cells.
func over(t *testing.T, gen, edits []byte) *Overlay {
	t.Helper()
	o, e := New(from(t, gen), from(t, edits))
	if o == nil || e != api.OK {
		t.Fatalf("New: %v, error %d", o != nil, e)
	}
	return o
}

// like checks all that an overlay tells at once against a model, and some of its cells.
func like(t *testing.T, what string, o *Overlay, m *model, cells ...int) {
	t.Helper()
	edits, many := m.edits()
	if !bytes.Equal(o.Final().Bytes(), m.shown) {
		t.Fatalf("%s: Final is another one", what)
	}
	if !bytes.Equal(o.Edits().Bytes(), edits) {
		t.Fatalf("%s: Edits are others", what)
	}
	if o.Many() != many {
		t.Fatalf("%s: Many %d, not %d", what, o.Many(), many)
	}
	if o.Dirty() != m.dirty {
		t.Fatalf("%s: Dirty %v", what, o.Dirty())
	}
	for _, i := range cells {
		if o.Get(i) != int(m.shown[i]) {
			t.Fatalf("%s: Get(%d): %d, not %d", what, i, o.Get(i), m.shown[i])
		}
	}
}

// everyCell are all places of a chunk.
func everyCell() []int {
	var l []int
	for i := range 32768 {
		l = append(l, i)
	}
	return l
}

// ends are the first cell, the last one, some between, and their neighbours.
func ends() []int { return []int{0, 1, 15, 16, 255, 256, 12345, 32511, 32512, 32766, 32767} }

// noCells are no places of a chunk; the lowest bits of some are those of one.
func noCells() []int {
	return []int{
		-1, -2, -256, -32767, -32768, 32768, 32769, 65535, 65536, 65541, 1 << 31, 1<<32 + 5, 1 << 62,
		math.MinInt32, math.MinInt, math.MinInt + 5, math.MaxInt32, math.MaxInt,
	}
}

// noKinds are no kinds that a cell may be Set to; the lowest bits of some are those of one.
func noKinds() []int {
	return []int{
		-1, -2, -16, -253, -256, 16, 17, 18, 31, 32, 255, 256, 259, 1 << 16, 1<<32 + 3, 1 << 62,
		math.MinInt32, math.MinInt, math.MinInt + 3, math.MaxInt32, math.MaxInt,
	}
}

// P20.1 to P20.3: the chapter's example.
func TestExample(t *testing.T) {
	o := over(t, full(0), nil)
	if e := o.Set(5, 3); e != api.OK || o.Many() != 1 || o.Get(5) != 3 || !o.Dirty() {
		t.Errorf("Set(5, 3): error %d, Many %d, Get %d, Dirty %v", e, o.Many(), o.Get(5), o.Dirty())
	}
	o.Clean()
	if e := o.Set(5, 3); e != api.OK || o.Dirty() {
		t.Errorf("Set(5, 3) again: error %d, Dirty %v", e, o.Dirty())
	}
	if e := o.Set(5, 0); e != api.OK || o.Many() != 0 || !o.Dirty() {
		t.Errorf("Set(5, 0): error %d, Many %d, Dirty %v", e, o.Many(), o.Dirty())
	}
}

// P20.1, P1, R1: without generated blocks there is no overlay beside the error, whatever edits there are.
func TestNewOfNoBlocks(t *testing.T) {
	for _, edits := range [][]byte{nil, full(16), full(0), full(3), mixed(4)} {
		if o, e := New(nil, from(t, edits)); o != nil || e != api.ErrArg {
			t.Errorf("New of no blocks: %v, error %d", o != nil, e)
		}
	}
}

// P20.1 to P20.3: without edits all is as it was generated, None with it, and nothing is dirty.
func TestNewWithoutEdits(t *testing.T) {
	grounds := [][]byte{mixed(0), mixed(9)}
	for k := range 17 {
		grounds = append(grounds, full(k))
	}
	for _, gen := range grounds {
		for _, edits := range [][]byte{nil, full(16)} {
			like(t, "New without edits", over(t, gen, edits), &model{gen: gen, shown: gen}, everyCell()...)
		}
	}
}

// P20.1 to P20.3: one edit of each kind in each of some cells, over each kind. None is no edit, nor is what was generated.
func TestNewWithOneEdit(t *testing.T) {
	for _, i := range ends() {
		for g := range 17 {
			for k := range 17 {
				edits := full(16)
				edits[i] = byte(k)
				o := over(t, full(g), edits)
				want, many := k, 1
				if k == 16 || k == g {
					want, many = g, 0
				}
				if o.Get(i) != want || o.Many() != many || o.Dirty() {
					t.Fatalf("%d over %d: Get(%d) %d, Many %d, Dirty %v", k, g, i, o.Get(i), o.Many(), o.Dirty())
				}
				if e := o.Edits().Get(i); many == 1 && e != k || many == 0 && e != 16 {
					t.Fatalf("%d over %d: Edits has %d", k, g, e)
				}
			}
		}
	}
}

// P20.1 to P20.3: chunks with edits in many cells or in all of them, each held cell by cell against the rule.
func TestNewWithEdits(t *testing.T) {
	r := rand.New(rand.NewSource(20))
	gen, edits := pairs()
	like(t, "each pair of kinds", over(t, gen, edits), modelOf(gen, edits), everyCell()...)
	like(t, "each pair the other way round", over(t, edits, gen), modelOf(edits, gen), everyCell()...)
	like(t, "edits as generated", over(t, gen, gen), modelOf(gen, gen), everyCell()...)
	for _, one := range []int{1, 2, 30, 3000} {
		edits := sparse(r, one)
		for k := range 17 {
			like(t, "edits over one kind", over(t, full(k), edits), modelOf(full(k), edits), everyCell()...)
		}
		like(t, "edits over all kinds", over(t, mixed(one), edits), modelOf(mixed(one), edits), everyCell()...)
	}
	for k := range 17 {
		like(t, "edits of one kind", over(t, mixed(2), full(k)), modelOf(mixed(2), full(k)), everyCell()...)
	}
}

// P20.1, R3: New leaves what is handed in, and what is done to it later changes nothing of the overlay.
func TestHandedIn(t *testing.T) {
	gen, edits := from(t, mixed(1)), from(t, mixed(5))
	o, _ := New(gen, edits)
	again, _ := New(gen, edits)
	m := modelOf(mixed(1), mixed(5))
	if !bytes.Equal(gen.Bytes(), mixed(1)) || !bytes.Equal(edits.Bytes(), mixed(5)) {
		t.Error("New has changed what was handed in")
	}
	for _, i := range ends() {
		o.Set(i, 13)
		m.set(i, 13)
		gen.Set(i, 14)
		edits.Set(i, 15)
	}
	like(t, "other cells handed in", o, m, everyCell()...)
	gen.Fill(0, 127, 7)
	edits.Fill(0, 127, 16)
	like(t, "all cells handed in are others", o, m, everyCell()...)
	like(t, "another overlay of the same chunks", again, modelOf(mixed(1), mixed(5)), everyCell()...)
	one := from(t, mixed(3))
	o, _ = New(one, one)
	o.Set(9, 1)
	o.Set(10, 1)
	if !bytes.Equal(one.Bytes(), mixed(3)) {
		t.Error("Set has changed what was handed in")
	}
	one.Fill(0, 127, 2)
	m = modelOf(mixed(3), nil)
	m.set(9, 1)
	m.set(10, 1)
	like(t, "one chunk as both", o, m, everyCell()...)
}

// P20.3, R3: what is done to an answer changes nothing of the overlay, nor of another answer; nor do later Sets change an answer.
func TestAnswers(t *testing.T) {
	o, m := over(t, mixed(6), mixed(8)), modelOf(mixed(6), mixed(8))
	before, _ := m.edits()
	final, edits, final2, edits2 := o.Final(), o.Edits(), o.Final(), o.Edits()
	final.Fill(0, 127, 9)
	edits.Fill(0, 127, 10)
	if !bytes.Equal(final2.Bytes(), m.shown) || !bytes.Equal(edits2.Bytes(), before) {
		t.Error("one answer has changed another one")
	}
	like(t, "answers are changed", o, m, everyCell()...)
	shown := slices.Clone(m.shown)
	for i := range 32768 {
		o.Set(i, i%16)
		m.set(i, i%16)
	}
	if !bytes.Equal(final2.Bytes(), shown) || !bytes.Equal(edits2.Bytes(), before) {
		t.Error("Sets have changed an answer")
	}
	like(t, "Sets behind answers", o, m, everyCell()...)
	none := over(t, mixed(6), nil)
	none.Final().Fill(0, 127, 1)
	none.Edits().Fill(0, 127, 1)
	like(t, "answers of no edits are changed", none, modelOf(mixed(6), nil), everyCell()...)
}

// P20.2, R1: what is no cell has no kind, edited or not.
func TestGetOfNoCell(t *testing.T) {
	for _, o := range []*Overlay{over(t, full(3), nil), over(t, mixed(1), mixed(2)), over(t, full(16), full(4))} {
		for _, i := range noCells() {
			if o.Get(i) != -1 {
				t.Errorf("Get(%d): %d", i, o.Get(i))
			}
		}
	}
}

// P20.2, R1, R2: what Set refuses, and that it changes nothing then, whether the overlay is dirty or clean. That there is no such cell is told ahead of a wrong kind.
func TestSetRefused(t *testing.T) {
	for _, dirty := range []bool{false, true} {
		o, m := over(t, mixed(4), mixed(7)), modelOf(mixed(4), mixed(7))
		if dirty {
			o.Set(77, 5)
			m.set(77, 5)
			o.Set(77, 6)
			m.set(77, 6)
		}
		for _, i := range noCells() {
			for _, k := range append(noKinds(), 0, 1, 15) {
				if e := o.Set(i, k); e != api.ErrArg {
					t.Errorf("Set(%d, %d): error %d", i, k, e)
				}
			}
		}
		for _, i := range ends() {
			for _, k := range noKinds() {
				if e := o.Set(i, k); e != api.ErrKind {
					t.Errorf("Set(%d, %d): error %d", i, k, e)
				}
			}
		}
		like(t, "Sets that are refused", o, m, everyCell()...)
	}
}

// P20.2: a cell that was generated as None can't be set back to it, since None is no kind to Set.
func TestSetToNone(t *testing.T) {
	o := over(t, full(16), nil)
	m := modelOf(full(16), nil)
	o.Set(40, 2)
	m.set(40, 2)
	for _, i := range []int{40, 41} {
		if e := o.Set(i, 16); e != api.ErrKind {
			t.Errorf("Set(%d, 16): error %d", i, e)
		}
	}
	like(t, "Sets to None", o, m, 39, 40, 41)
}

// P20.2, P20.3: each kind may be Set in the first cell, in the last one and between, and no other cell changes.
func TestSet(t *testing.T) {
	for _, i := range ends() {
		for k := range 16 {
			o, m := over(t, mixed(3), nil), modelOf(mixed(3), nil)
			if got, want := o.Set(i, k), m.set(i, k); got != want {
				t.Fatalf("Set(%d, %d): error %d", i, k, got)
			}
			like(t, "one Set", o, m, ends()...)
		}
	}
}

// P20.2, P20.3: a Set to what the cell is already, edited or not, is OK and makes nothing dirty.
func TestSetToTheSame(t *testing.T) {
	gen, edits := pairs()
	o, m := over(t, gen, edits), modelOf(gen, edits)
	for i, k := range m.shown {
		if k == 16 {
			continue
		}
		if e := o.Set(i, int(k)); e != api.OK || o.Dirty() {
			t.Fatalf("Set(%d, %d) to the same: error %d, Dirty %v", i, k, e, o.Dirty())
		}
	}
	like(t, "Sets to the same", o, m, everyCell()...)
	o.Set(1, 9)
	o.Set(1, 9)
	if m.set(1, 9); !o.Dirty() {
		t.Error("a Set to the same made it clean")
	}
	like(t, "one Set twice over", o, m, everyCell()...)
}

// P20.2 to P20.4: over each kind a Set to another one, to a third one, and back to what was generated, with all that is told behind each; dirty from the first change on, also where the cell is as it was at first.
func TestSetThereAndBack(t *testing.T) {
	for g := range 17 {
		for k := range 16 {
			third := (k*5 + g*3 + 1) % 16
			o, m := over(t, full(g), nil), modelOf(full(g), nil)
			i := ends()[(g+k)%len(ends())]
			for _, to := range []int{k, third, min(g, 15), k} {
				if got, want := o.Set(i, to), m.set(i, to); got != want {
					t.Fatalf("over %d: Set(%d, %d): error %d", g, i, to, got)
				}
				like(t, "there and back", o, m, i)
			}
		}
	}
}

// P20.2, P20.3: each kind behind each other one over each, clean between: dirty just where the kind is another one.
func TestEachTurn(t *testing.T) {
	for g := range 17 {
		o, m := over(t, full(g), nil), modelOf(full(g), nil)
		for first := range 16 {
			for second := range 16 {
				i := first*2000 + second*40
				o.Set(i, first)
				m.set(i, first)
				o.Clean()
				e := o.Set(i, second)
				m.set(i, second)
				if e != api.OK || o.Dirty() != (first != second) || o.Get(i) != second {
					t.Fatalf("over %d, %d behind %d: error %d, Dirty %v, Get %d", g, second, first, e, o.Dirty(), o.Get(i))
				}
			}
		}
		m.dirty = o.Dirty()
		like(t, "each turn", o, m, everyCell()...)
	}
}

// P20.3: Clean makes the overlay clean and changes nothing else, however often it is told.
func TestClean(t *testing.T) {
	o, m := over(t, mixed(11), mixed(12)), modelOf(mixed(11), mixed(12))
	for turn, i := range append(ends(), ends()...) {
		o.Set(i, turn%16)
		m.set(i, turn%16)
		like(t, "ahead of Clean", o, m, ends()...)
		for range 2 {
			o.Clean()
			m.dirty = false
			like(t, "behind Clean", o, m, ends()...)
		}
	}
	like(t, "at last", o, m, everyCell()...)
	fresh := over(t, full(0), nil)
	fresh.Clean()
	like(t, "Clean of a new one", fresh, modelOf(full(0), nil), ends()...)
}

// P20.2 to P20.4: many Sets in a row, right and wrong ones, with some Cleans, held against the rule; and what is grown anew of the edits meanwhile goes on as well as the overlay itself.
func TestManySets(t *testing.T) {
	r := rand.New(rand.NewSource(204))
	for turn, cells := range []int{1, 2, 7, 40, 500, 32768} {
		gen, edits := mixed(turn), sparse(r, turn+1)
		o, m := over(t, gen, edits), modelOf(gen, edits)
		for step := range 3000 {
			i, k := r.Intn(cells)*(32768/cells), r.Intn(18)-1
			if r.Intn(50) == 0 {
				i = noCells()[r.Intn(len(noCells()))]
			}
			if got, want := o.Set(i, k), m.set(i, k); got != want {
				t.Fatalf("Set(%d, %d): error %d, not %d", i, k, got, want)
			}
			if r.Intn(4) == 0 {
				o.Clean()
				m.dirty = false
			}
			if o.Dirty() != m.dirty {
				t.Fatalf("Set(%d, %d): Dirty %v", i, k, o.Dirty())
			}
			if step%100 == 0 {
				like(t, "many Sets", o, m, ends()...)
			}
			if step%700 == 699 {
				o = over(t, gen, o.Edits().Bytes())
				m.dirty = false
			}
		}
		like(t, "many Sets", o, m, everyCell()...)
	}
}

// P20.4: an overlay over the same blocks with Edits tells the same, and is not dirty.
func TestAgain(t *testing.T) {
	r := rand.New(rand.NewSource(2004))
	for turn := range 17 {
		gen := mixed(turn)
		if turn%3 == 0 {
			gen = full(turn)
		}
		o := over(t, gen, sparse(r, turn*turn+1))
		for range 200 {
			o.Set(r.Intn(32768), r.Intn(16))
		}
		again, e := New(from(t, gen), o.Edits())
		if e != api.OK {
			t.Fatalf("New with Edits: error %d", e)
		}
		like(t, "with Edits", again, &model{gen: gen, shown: o.Final().Bytes()}, everyCell()...)
		if !bytes.Equal(again.Edits().Bytes(), o.Edits().Bytes()) || again.Many() != o.Many() {
			t.Error("an overlay with Edits has others")
		}
	}
}

// P20.4: what was set back to what was generated is not edited, one cell after the other, till no edit is left.
func TestAllSetBack(t *testing.T) {
	gen := make([]byte, 32768)
	for i := range gen {
		gen[i] = byte(i / 3 % 16)
	}
	o := over(t, gen, full(16))
	for i, k := range gen {
		o.Set(i, int(k+5)%16)
	}
	if o.Many() != 32768 || slices.Contains(o.Edits().Bytes(), 16) {
		t.Errorf("each cell was Set, and Many is %d", o.Many())
	}
	o.Clean()
	for i, k := range gen {
		if e := o.Set(i, int(k)); e != api.OK || !o.Dirty() {
			t.Fatalf("Set(%d, %d) back: error %d, Dirty %v", i, k, e, o.Dirty())
		}
		if i%1000 == 0 && o.Many() != 32767-i {
			t.Fatalf("%d are set back, and Many is %d", i+1, o.Many())
		}
	}
	m := modelOf(gen, nil)
	m.dirty = true
	like(t, "all set back", o, m, everyCell()...)
	if !bytes.Equal(o.Edits().Bytes(), full(16)) {
		t.Error("Edits is not None throughout")
	}
}

// P20.2, P20.3: a long row of Sets by a short rule, held against sums that were worked out in another language.
func TestKnownSums(t *testing.T) {
	gen := make([]byte, 32768)
	for i := range gen {
		gen[i] = byte((i ^ i>>5 ^ i>>11) % 17)
	}
	o := over(t, gen, nil)
	at, kind := 1, 0
	for range 40000 {
		at = (at*20077 + 12345) % 1048576
		kind = (kind*5 + at/64 + 3) % 256
		o.Set(at%33000-100, kind%19-1)
	}
	final, edits := num.Sum(o.Final().Bytes()), num.Sum(o.Edits().Bytes())
	if final != 0xe3c1896b || edits != 0x9ab15f66 || o.Many() != 20026 {
		t.Errorf("Final %08x, Edits %08x, Many %d", final, edits, o.Many())
	}
}

// P20.3: what the overlay has of chunk's methods tells of the edits alone.
func TestPromoted(t *testing.T) {
	o, m := over(t, mixed(1), nil), modelOf(mixed(1), nil)
	for i := 0; i < 32768; i += 100 {
		o.Set(i, i%16)
		m.set(i, i%16)
	}
	edits, many := m.edits()
	if !bytes.Equal(o.Bytes(), edits) || !bytes.Equal(o.Copy().Bytes(), edits) || o.Counts()[16] != 32768-many {
		t.Error("Bytes, Copy or Counts are not those of the edits")
	}
	if len(o.Diff(chunk.Full(16))) != many {
		t.Error("Diff is not that of the edits")
	}
	o.Copy().Fill(0, 127, 3)
	o.Bytes()[0] = 3
	like(t, "what is promoted", o, m, everyCell()...)
}

// R1: an overlay that New has not made has no cells, and none of its calls panics.
func TestZeroValue(t *testing.T) {
	var o Overlay
	for _, i := range append(noCells(), ends()...) {
		if o.Get(i) != -1 || o.Set(i, 3) != api.ErrArg {
			t.Errorf("a cell %d is there", i)
		}
	}
	o.Clean()
	if o.Final() != nil || o.Edits() != nil || o.Many() != 0 || o.Dirty() {
		t.Error("something is there")
	}
}
