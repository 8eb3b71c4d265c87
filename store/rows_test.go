package store

import (
	"bytes"
	"maps"
	"math/bits"
	"math/rand"
	"testing"

	"outcrop/api"
	"outcrop/chunk"
	"outcrop/codec"
	"outcrop/disk"
)

// sizeOf is how many bytes a chunk's edits have in a slot, told apart from the program by the chapter of codec; 0 of no cells at all.
func sizeOf(cells []byte) int {
	var seen [17]bool
	kinds, runs, many := 0, 0, 0
	for i, k := range cells {
		if !seen[k] {
			seen[k] = true
			kinds++
		}
		many++
		if i+1 == len(cells) || cells[i+1] != k {
			runs += (bits.Len(uint(many))+6)/7 + 1
			many = 0
		}
	}
	if kinds == 0 || kinds == 1 && seen[16] {
		return 0
	}
	packed := 4096
	for w := 1; 1<<w < kinds; w *= 2 {
		packed *= 2
	}
	return 2 + kinds + min(runs, packed)
}

// model is what a store should be, told apart from the program: the cells of the chunks that were saved, and the sectors that were reserved.
type model struct {
	has  map[api.At][]byte
	said map[api.At]int
}

// sectors is how many sectors a chunk has.
func (m *model) sectors(c api.At) int { return (sizeOf(m.has[c]) + 31) / 32 }

// members are the chunks of a region.
func members(in api.At) []api.At {
	var l []api.At
	for slot := range 16 {
		l = append(l, api.At{X: in.X*4 + slot%4, Z: in.Z*4 + slot/4})
	}
	return l
}

func (m *model) reserve(c api.At, cells []byte) api.Errno {
	own := (sizeOf(cells) + 31) / 32
	all := 2 + own
	for _, at := range members(regionOf(c)) {
		if at == c {
			continue
		}
		if n, is := m.said[at]; is {
			all += n
		} else {
			all += m.sectors(at)
		}
	}
	if all > 40 {
		return api.ErrRegionFull
	}
	m.said[c] = own
	return api.OK
}

// regions are those of a list, each with the sectors of all that it has.
func (m *model) regions(l []api.Edit) map[api.At]int {
	all := map[api.At]int{}
	for _, x := range l {
		in := regionOf(x.C)
		if all[in] > 0 {
			continue
		}
		all[in] = 2
		for _, at := range members(in) {
			all[in] += m.sectors(at)
		}
	}
	return all
}

// save is what Save does, and what it answers where the power is there. How many blocks are written only region's Plan can tell; that there are no more of them than a region has sectors, and at least one for each that a chunk is new in, is checked of it.
func (m *model) save(t *testing.T, s *Store, l []api.Edit) (model, api.Errno) {
	t.Helper()
	next := model{maps.Clone(m.has), map[api.At]int{}}
	seen := map[api.At]bool{}
	for _, x := range l {
		if seen[x.C] || len(x.Cells) != 32768 {
			return *m, api.ErrArg
		}
		seen[x.C] = true
		next.has[x.C] = bytes.Clone(x.Cells)
	}
	all := next.regions(l)
	for _, n := range all {
		if n > 40 {
			return *m, api.ErrRegionFull
		}
	}
	many := 0
	for in, n := range all {
		var changes []api.Change
		for _, x := range l {
			edits, _ := chunk.From(x.Cells)
			if regionOf(x.C) == in && sizeOf(x.Cells) > 0 {
				changes = append(changes, api.Change{Slot: slotOf(x.C), Data: codec.Encode(edits)})
			} else if regionOf(x.C) == in {
				changes = append(changes, api.Change{Slot: slotOf(x.C)})
			}
		}
		puts, _, e := lies(t, s, in).Plan(changes)
		if e != api.OK || len(puts) > 40 || n > 2 && len(puts) < 1 {
			t.Fatalf("region %v: Plan: %d blocks, error %d", in, len(puts), e)
		}
		many += len(puts)
	}
	if many > 256 {
		return *m, api.ErrFull
	}
	return next, api.OK
}

// tells checks that a store has in some regions just what the model says.
func (m *model) tells(t *testing.T, what string, s *Store, regions map[api.At]int) bool {
	t.Helper()
	for in := range regions {
		live := lies(t, s, in).Live()
		all := 0
		for slot, c := range members(in) {
			if live[slot].Many != m.sectors(c) {
				return false
			}
			all += live[slot].Many
			x, e := s.Load(c)
			if e != api.OK || (x == nil) != (sizeOf(m.has[c]) == 0) {
				return false
			}
			if x != nil && !bytes.Equal(x.Bytes(), m.has[c]) {
				return false
			}
		}
		if whole(t, what, s, in) != all {
			t.Errorf("%s: region %v has other sectors", what, in)
		}
	}
	return true
}

// anyEdits are edits of any number of cells and of kinds, many of them few.
func anyEdits(r *rand.Rand, most int) *chunk.Chunk {
	n, kinds := r.Intn(1+r.Intn(most)), 1+r.Intn(17)
	step, x := 1+r.Intn(3), chunk.Full(api.None)
	for i := range n {
		x.Set(i*step, r.Intn(kinds))
	}
	return x
}

// row is one long row of calls on one disk, and the model beside it.
type row struct {
	t     *testing.T
	r     *rand.Rand
	d     *disk.Disk
	s     *Store
	m     model
	side  int // of the chunks that are asked, each way
	most  int // cells of a chunk's edits
	tally map[string]int
}

func (w *row) at() api.At {
	return api.At{X: w.r.Intn(w.side) - w.side/2, Z: w.r.Intn(w.side) - w.side/2}
}

func (w *row) list() []api.Edit {
	var l []api.Edit
	for range w.r.Intn(1 + w.r.Intn(20+w.side)) {
		x := edit(w.at(), anyEdits(w.r, w.most))
		if w.r.Intn(300) == 0 {
			x.Cells = x.Cells[1:]
		}
		if w.r.Intn(20) > 0 && seenIn(l, x.C) {
			continue
		}
		l = append(l, x)
	}
	return l
}

func seenIn(l []api.Edit, c api.At) bool {
	for _, x := range l {
		if x.C == c {
			return true
		}
	}
	return false
}

// count keeps how often each answer was there, so that no row goes by without them.
func (w *row) count(call string, e api.Errno) {
	w.tally[call+" "+[]string{0: "ok", 1: "arg", 7: "full", 8: "down", 11: "region", 13: ""}[e]]++
}

func (w *row) reserve() {
	c, x := w.at(), anyEdits(w.r, w.most)
	cells := x.Bytes()
	if w.r.Intn(6) == 0 {
		x, cells = nil, nil
	}
	want := w.m.reserve(c, cells)
	reserves(w.t, "row", w.d, w.s, want, c, x)
	w.count("reserve", want)
}

func (w *row) save() {
	l := w.list()
	next, want := w.m.save(w.t, w.s, l)
	saves(w.t, "row", w.d, w.s, want, l...)
	w.m = next
	if !w.m.tells(w.t, "row", w.s, w.m.regions(l)) {
		w.t.Fatalf("behind Save of %d, error %d: other edits", len(l), want)
	}
	w.count("save", want)
}

// cut saves while the power goes out, and lets it go out within openings too.
func (w *row) cut() {
	l := w.list()
	next, want := w.m.save(w.t, w.s, l)
	w.d.Cut(w.r.Intn(1 + w.r.Intn(400)))
	e := w.s.Save(l)
	if e != want && e != api.ErrDown || e == api.OK && !w.d.On() {
		w.t.Fatalf("Save of %d: %d, not %d or ErrDown", len(l), e, want)
	}
	if e != api.ErrDown {
		w.d.Up()
		w.m = next
		return
	}
	for range w.r.Intn(3) {
		w.d.Up()
		w.d.Cut(w.r.Intn(100))
		Open(w.d)
	}
	w.d.Up()
	w.s = opened(w.t, w.d)
	old := model{w.m.has, map[api.At]int{}}
	regions := next.regions(l)
	switch {
	case old.tells(w.t, "row", w.s, regions):
		w.m = old
		w.tally["dropped"]++
	case want == api.OK && next.tells(w.t, "row", w.s, regions):
		w.m = next
		w.tally["done"]++
	default:
		w.t.Fatalf("the power went out within Save of %d, error %d: neither all edits nor none", len(l), want)
	}
	w.count("cut", e)
}

func (w *row) load() {
	c := w.at()
	var want *chunk.Chunk
	if sizeOf(w.m.has[c]) > 0 {
		want, _ = chunk.From(w.m.has[c])
		w.tally["load some"]++
	}
	loads(w.t, "row", w.d, w.s, c, want)
}

func (w *row) reopen() {
	w.s = opened(w.t, w.d)
	w.m.said = map[api.At]int{}
}

// P22.1 to P22.4, R5: many calls in a row answer as the chapter's rule does, worked out apart from the program.
func TestManyCalls(t *testing.T) {
	all := map[string]int{}
	for seed := range 12 {
		w := row{t: t, r: rand.New(rand.NewSource(int64(seed))), d: disk.New(), side: []int{4, 8, 36}[seed%3], most: []int{100, 400, 900}[seed/3%3], tally: all}
		w.m.has = map[api.At][]byte{}
		w.reopen()
		for range 150 {
			switch w.r.Intn(12) {
			case 0, 1, 2, 3:
				w.reserve()
			case 4, 5:
				w.save()
			case 6:
				w.cut()
			case 7:
				if w.r.Intn(3) == 0 {
					w.reopen()
				}
			default:
				w.load()
			}
		}
		regions := map[api.At]int{}
		for c := range w.m.has {
			regions[regionOf(c)] = 0
		}
		if w.reopen(); !w.m.tells(t, "at the end", w.s, regions) {
			t.Errorf("seed %d: other edits at the end", seed)
		}
	}
	for _, what := range []string{"reserve ok", "reserve region", "save ok", "save arg", "save full", "save region", "cut down", "dropped", "done", "load some"} {
		if all[what] < 5 {
			t.Errorf("%s: %d times", what, all[what])
		}
	}
}

// numbers are numbers by counting, as they were had in another language.
type numbers uint64

func (x *numbers) next(n int) int {
	*x = *x*6364136223846793005 + 1442695040888963407
	return int(uint64(*x) >> 33 % uint64(n))
}

func (x *numbers) at() api.At {
	c := api.At{X: x.next(12) - 4}
	c.Z = x.next(8) - 4
	return c
}

// pattern are edits that hang on three of the numbers.
func (x *numbers) pattern() *chunk.Chunk {
	n := []int{0, 1, 5, 20, 60, 140, 290, 6000}[x.next(8)]
	kind, step := x.next(17), []int{1, 2, 3, 130, 257}[x.next(5)]
	c := chunk.Full(api.None)
	for i := range n {
		c.Set((i*step+7)%32768, (kind+i/8)%17)
	}
	return c
}

// list are edits of a chunk and of more of them, here and there with too few cells.
func (x *numbers) list(c api.At) []api.Edit {
	var l []api.Edit
	for range 1 + x.next(5) {
		e := edit(c, x.pattern())
		if x.next(25) == 0 {
			e.Cells = e.Cells[:32767]
		}
		l = append(l, e)
		c = x.at()
	}
	return l
}

// sum is a sum of answers.
type sum uint64

func (h *sum) mix(v int) { *h = (*h ^ sum(v)) * 1099511628211 }

// slot mixes a slot's bytes, and the edits that Load has of it.
func (h *sum) slot(t *testing.T, s *Store, c api.At) {
	t.Helper()
	b := lies(t, s, regionOf(c)).Get(slotOf(c))
	h.mix(len(b))
	for _, v := range b {
		h.mix(int(v))
	}
	x, e := s.Load(c)
	if e != api.OK {
		t.Fatalf("Load: error %d", e)
	}
	for i, k := range x.Bytes() {
		if k != api.None {
			h.mix(i*32 + int(k))
		}
	}
}

// P22.1 to P22.3: sums of the answers of long rows, worked out in another language.
func TestKnownSums(t *testing.T) {
	for seed, want := range map[numbers]sum{1: 14939626395605332431, 2: 9692759454405269719, 77: 8939458015087263915} {
		d, s := fresh(t)
		h, x := sum(14695981039346656037), seed
		for range 600 {
			op, c := x.next(8), x.at()
			switch {
			case op < 4:
				var edits *chunk.Chunk
				if x.next(10) > 0 {
					edits = x.pattern()
				}
				h.mix(int(s.Reserve(c, edits)))
			case op < 6:
				h.mix(int(s.Save(x.list(c))))
			case op == 6:
				h.slot(t, s, c)
			default:
				if x.next(4) == 0 {
					s = opened(t, d)
				}
				h.mix(whole(t, "sums", s, regionOf(c)))
			}
		}
		if h != want {
			t.Errorf("seed %d: sum %d, not %d", seed, h, want)
		}
	}
}
