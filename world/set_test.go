package world

import (
	"math/rand"
	"slices"
	"testing"

	"outcrop/api"
	"outcrop/codec"
	"outcrop/disk"
)

// P23.4: a kind that the cell has already makes nothing dirty; another one does; the generated one leaves no edit; all that in any chunk and at any height.
func TestSetOfEachSort(t *testing.T) {
	for seed, most := range map[uint64]int{7: 9, 1 << 40: 1} {
		for _, p := range []api.Pos{{}, {X: 5, Y: 120, Z: 5}, {X: -1, Y: 30, Z: -1}, {X: 1 << 20, Y: 127, Z: -1 << 20}, {X: -17, Y: 44, Z: 16}} {
			w, m := begun(t, seed, most, disk.New()), modelOf(seed)
			was := m.get(p)
			sets(t, "the same", w, m, p, was)
			keeps(t, "the same", w, m)
			other := (was + 3) % 16
			sets(t, "another one", w, m, p, other)
			sets(t, "another one again", w, m, p, other)
			gets(t, "another one", w, p, other)
			sets(t, "a third one", w, m, p, (was+5)%16)
			gets(t, "a third one", w, p, (was+5)%16)
			keeps(t, "not saved", w, m)
			answers(t, "Sync", w.Sync(), api.OK)
			m.save()
			keeps(t, "saved", w, m)
			sets(t, "the same as saved", w, m, p, (was+5)%16)
			keeps(t, "the same as saved", w, m)
			sets(t, "as generated", w, m, p, was)
			gets(t, "as generated", w, p, was)
			keeps(t, "as generated, not saved", w, m)
			answers(t, "Sync", w.Sync(), api.OK)
			m.save()
			keeps(t, "as generated, saved", w, m)
			if len(m.saved.copied()) != 0 || w.Stat().Dirty != 0 {
				t.Errorf("edits are left: %v, %v", m.saved, w.Stat())
			}
		}
	}
}

// P23.4: each kind may be set, and is had back, also from the disk.
func TestSetOfEachKind(t *testing.T) {
	d := disk.New()
	w, m := begun(t, 7, 9, d), modelOf(7)
	for k := range 16 {
		answers(t, "Set", sets(t, "kinds", w, m, cell(-k, 100, k), k), api.OK)
	}
	for range 2 {
		for k := range 16 {
			gets(t, "kinds", w, cell(-k, 100, k), k)
		}
		answers(t, "Reopen", w.Reopen(), api.OK)
	}
}

// P23.4: chunks of one region and of several may be dirty, four of them; the fifth one saves those four ahead, all by one Save, and is not saved itself.
func TestFifthDirtyChunk(t *testing.T) {
	for what, l := range map[string][]api.At{
		"one region":      {{X: 0}, {X: 1}, {X: 2}, {X: 3}, {Z: 1}, {Z: 2}},
		"several regions": {{X: 0}, {X: -1}, {Z: -1}, {X: -1, Z: -1}, {X: 4}, {Z: 4}},
		"two regions":     {{X: 3}, {X: 4}, {X: 3, Z: 1}, {X: 4, Z: 1}, {X: 3, Z: 3}, {X: 4, Z: 3}},
	} {
		for _, most := range []int{1, 50} {
			w, m := begun(t, 7, most, disk.New()), modelOf(7)
			for n, c := range l {
				sets(t, what, w, m, at(c, n), api.Brick)
				keeps(t, what, w, m)
				sets(t, what+", again", w, m, at(c, n+40), api.Glass)
				sets(t, what+", the same", w, m, at(c, n), api.Brick)
				keeps(t, what, w, m)
				if many := w.Stat().Dirty; many != n%4+1 {
					t.Errorf("%s: %d dirty behind %d chunks", what, many, n+1)
				}
			}
			for n, c := range l {
				gets(t, what, w, at(c, n), api.Brick)
				gets(t, what, w, at(c, n+40), api.Glass)
			}
		}
	}
}

// P23.4: with four dirty chunks nothing is saved by a Set of a dirty chunk, of a kind that is there already, or of what may not be.
func TestNothingToBeDirty(t *testing.T) {
	d := disk.New()
	w, m := begun(t, 7, 9, d), modelOf(7)
	for n := range 4 {
		sets(t, "four", w, m, at(api.At{X: n}, 0), api.Brick)
	}
	before := d.Writes()
	for n := range 4 {
		sets(t, "dirty ones", w, m, at(api.At{X: n}, 1), api.Brick)
		sets(t, "dirty ones, back", w, m, at(api.At{X: n}, 0), api.Air)
	}
	fifth := at(api.At{X: 9}, 0)
	sets(t, "a fifth, as it is", w, m, fifth, api.Air)
	answers(t, "a fifth, no kind", w.Set(fifth, 16), api.ErrKind)
	gets(t, "a fifth", w, fifth, api.Air)
	shines(t, "a fifth", w, m, fifth)
	keeps(t, "four", w, m)
	if d.Writes() != before {
		t.Errorf("%d blocks written", d.Writes()-before)
	}
}

// filled is a world whose disk has a region, that of (4, 4), full to the last sector by edits of three chunks; and its model.
func filled(t *testing.T, most int) (*World, *model) {
	t.Helper()
	d, m := disk.New(), modelOf(7)
	for c, n := range map[api.At]int{{X: 4, Z: 4}: 20, {X: 5, Z: 4}: 17, {X: 7, Z: 7}: 1} {
		m.edits[c] = filling(c, n, api.Glass)
	}
	write(t, d, m.edits)
	m.save()
	return begun(t, 7, most, d), m
}

// refused checks that a Set is refused for its region, and that nothing has changed by it: not its block, not the light, not what is dirty, not the disk.
func refused(t *testing.T, what string, w *World, m *model, p api.Pos, k int) {
	t.Helper()
	was := m.get(p)
	if e := sets(t, what, w, m, p, k); e != api.ErrRegionFull {
		t.Fatalf("%s: Set(%v, %d): %d", what, p, k, e)
	}
	gets(t, what, w, p, was)
	shines(t, what, w, m, p)
	shines(t, what, w, m, cell(p.X, p.Y+1, p.Z))
	keeps(t, what, w, m)
}

// P23.4: a region that has room for just so many sectors takes them, and not one more, in a chunk that has edits and in one that has none, till others are let go.
func TestFullRegion(t *testing.T) {
	for _, most := range []int{1, 40} {
		w, m := filled(t, most)
		fresh, more := at(api.At{X: 6, Z: 5}, 77), at(api.At{X: 7, Z: 7}, 2*20+1)
		refused(t, "a chunk without edits", w, m, fresh, api.Lamp)
		refused(t, "a chunk that has some", w, m, more, api.Lamp)
		refused(t, "the chunk that has most", w, m, at(api.At{X: 4, Z: 4}, 4001), api.Lamp)
		answers(t, "beside it", sets(t, "another region", w, m, at(api.At{X: 8, Z: 7}, 0), api.Lamp), api.OK)
		refused(t, "one chunk is dirty", w, m, fresh, api.Lamp)
		answers(t, "another kind", sets(t, "no more room is needed", w, m, at(api.At{X: 7, Z: 7}, 1), api.Air), api.OK)
		refused(t, "still full", w, m, fresh, api.Lamp)
		for i := range m.edits[api.At{X: 7, Z: 7}] {
			sets(t, "let go", w, m, cell(7*16+i%16, i/256, 7*16+i/16%16), api.Air)
		}
		answers(t, "room", sets(t, "what was let go is room ahead of its being saved", w, m, fresh, api.Lamp), api.OK)
		refused(t, "full anew", w, m, more, api.Lamp)
		answers(t, "Sync", w.Sync(), api.OK)
		m.save()
		refused(t, "full on the disk", w, m, more, api.Lamp)
		answers(t, "Reopen", w.Reopen(), api.OK)
		refused(t, "opened anew", w, m, more, api.Lamp)
	}
}

// P23.4: a chunk's edits may have all 38 sectors of a region, and not one more, also when they were never saved: what is dirty counts as it is.
func TestFullOfDirtyOnes(t *testing.T) {
	w, m := begun(t, 7, 9, disk.New()), modelOf(7)
	c, beside := api.At{X: -1, Z: -1}, at(api.At{X: -4, Z: -2}, 0)
	many := 0
	for i := 1; ; i += 2 {
		if sets(t, "one more", w, m, at(c, i), api.Lamp) != api.OK {
			break
		}
		many++
	}
	if n := len(codec.Encode(m.edits.cells(c))); n > 38*32 || n <= 38*32-4 || many < 250 {
		t.Errorf("%d edits of %d bytes", many, n)
	}
	refused(t, "full", w, m, at(c, 2*many+1), api.Lamp)
	refused(t, "full", w, m, beside, api.Lamp)
	answers(t, "a sector less", sets(t, "less", w, m, at(c, 1), api.Air), api.OK)
	answers(t, "two less", sets(t, "less", w, m, at(c, 3), api.Air), api.OK)
	for i := 5; m.edits.sectors(c) == 38; i += 2 {
		sets(t, "less", w, m, at(c, i), api.Air)
	}
	answers(t, "room", sets(t, "room", w, m, beside, api.Lamp), api.OK)
	refused(t, "full again", w, m, at(api.At{X: -4, Z: -4}, 0), api.Lamp)
}

// P23.4: what is answered hangs on nothing else: not on what was read, saved or let go ahead of it.
func TestFullHoweverItIsKept(t *testing.T) {
	c, beside := api.At{X: -3, Z: 2}, api.At{X: -1, Z: 3}
	for what, call := range map[string]func(w *World) api.Errno{
		"nothing":  func(*World) api.Errno { return api.OK },
		"Sync":     (*World).Sync,
		"Reopen":   (*World).Reopen,
		"Evict":    func(w *World) api.Errno { return w.Evict(c) },
		"Get":      func(w *World) api.Errno { _, e := w.Get(cell(900, 1, 1)); return e },
		"Light":    func(w *World) api.Errno { _, _, e := w.Light(at(c, 5)); return e },
		"too much": func(w *World) api.Errno { return w.Set(at(beside, 3000), 16) - api.ErrKind },
	} {
		w, m := begun(t, 7, 2, disk.New()), modelOf(7)
		for i := 1; m.edits.sectors(c) < 30; i += 2 {
			sets(t, what, w, m, at(c, i), api.Sand)
		}
		answers(t, what, call(w), api.OK)
		if w.Stat().Dirty == 0 {
			m.save()
		}
		for i := 1; sets(t, what, w, m, at(beside, i), api.Gold) == api.OK; i += 2 {
			if i%9 == 0 {
				answers(t, what, call(w), api.OK)
			}
			if w.Stat().Dirty == 0 {
				m.save()
			}
			if i > 300 {
				t.Fatalf("%s: never full", what)
			}
		}
		if many := m.edits.sectors(beside); many != 8 {
			t.Errorf("%s: %d sectors beside 30", what, many)
		}
	}
}

// P23.2, P23.4: a fifth chunk's Set that its region refuses saves none of the four; ErrKind comes ahead of ErrRegionFull, and so does ErrDown.
func TestFifthThatIsRefused(t *testing.T) {
	w, m := filled(t, 9)
	for n := range 4 {
		sets(t, "four", w, m, at(api.At{X: n}, 0), api.Brick)
	}
	fifth := at(api.At{X: 6, Z: 6}, 0)
	before := w.Stat().Writes
	for range 3 {
		refused(t, "a fifth", w, m, fifth, api.Lamp)
	}
	answers(t, "no kind", w.Set(fifth, 16), api.ErrKind)
	w.disk.Cut(1)
	refused(t, "a fifth, with little power", w, m, fifth, api.Lamp)
	if many := w.Stat().Writes; many != before {
		t.Errorf("%d blocks written", many-before)
	}
	answers(t, "Sync", w.Sync(), api.ErrDown)
	answers(t, "no power", w.Set(fifth, api.Lamp), api.ErrDown)
	w.disk.Up()
	answers(t, "down", w.Set(fifth, api.Lamp), api.ErrDown)
}

// P23.4: room that dirty chunks have given up, unsaved, is room for a fifth chunk too, and stays it when they are saved for that.
func TestFifthInRoomThatIsLetGo(t *testing.T) {
	w, m := filled(t, 9)
	for n := range 3 {
		sets(t, "three", w, m, at(api.At{X: n}, 0), api.Brick)
	}
	c := api.At{X: 7, Z: 7}
	for i := range m.edits[c] {
		sets(t, "a fourth, let go", w, m, cell(7*16+i%16, i/256, 7*16+i/16%16), api.Air)
	}
	answers(t, "a fifth", sets(t, "a fifth", w, m, at(api.At{X: 6, Z: 6}, 9), api.Lamp), api.OK)
	keeps(t, "a fifth", w, m)
	if len(m.dirty) != 1 || len(m.saved[c]) != 0 {
		t.Fatalf("dirty are %v, not the fifth alone", m.dirty)
	}
	refused(t, "full anew", w, m, at(c, 1), api.Lamp)
	answers(t, "Sync", w.Sync(), api.OK)
	m.save()
	keeps(t, "all", w, m)
}

// P23.3, P23.4: light changes with a Set, over borders of chunks too, and is as it was when the block is.
func TestLightChanges(t *testing.T) {
	for _, most := range []int{1, 30} {
		w, m := begun(t, 7, most, disk.New()), modelOf(7)
		about := []api.Pos{{X: 15, Y: 120, Z: 15}, {X: 16, Y: 120, Z: 15}, {X: 16, Y: 119, Z: 16}, {X: 15, Y: 110, Z: 20}, {X: 22, Y: 121, Z: 17}}
		for _, p := range about {
			shines(t, "ahead", w, m, p)
		}
		for _, k := range []int{api.Lamp, api.Stone, api.Water, api.Air} {
			answers(t, "Set", sets(t, "light", w, m, cell(15, 120, 15), k), api.OK)
			for _, p := range about {
				shines(t, "behind", w, m, p)
			}
		}
	}
}

// P23.3, P23.4: a lamp's light is in all eight chunks about its own, whichever was lit ahead of it, and goes with it; what is beyond stays.
func TestLightOverBorders(t *testing.T) {
	w, m := begun(t, 5, 60, disk.New()), modelOf(5)
	lamp := cell(7, 115, 7)
	var l []api.Pos
	for _, x := range []int{-20, -2, 7, 17, 30} {
		for _, z := range []int{-20, -2, 7, 17, 30} {
			l = append(l, cell(x, 115, z))
		}
	}
	for _, k := range []int{api.Air, api.Lamp, api.Air} {
		sets(t, "over borders", w, m, lamp, k)
		for _, p := range l {
			sky, lamps, e := w.Light(p)
			away := max(p.X-7, 7-p.X) + max(p.Z-7, 7-p.Z)
			bright, want := 15, 0
			if k == api.Lamp {
				want = max(0, 14-away)
			}
			if k == api.Lamp && p == lamp {
				bright = 14
			}
			if sky != bright || lamps != want || e != api.OK {
				t.Errorf("kind %d, %v: light %d, %d, error %d, not %d, %d", k, p, sky, lamps, e, bright, want)
			}
		}
	}
}

// P23.8: with room for one chunk or for many, and with whatever is read and let go between the Sets, blocks and light are the same.
func TestSetsHoweverMuchIsKept(t *testing.T) {
	for _, most := range []int{1, 3, 100} {
		r, other := rand.New(rand.NewSource(3)), rand.New(rand.NewSource(int64(most)))
		d := disk.New()
		w, m := begun(t, 11, most, d), modelOf(11)
		var l []api.Pos
		for range 40 {
			p := at(api.At{X: r.Intn(4) - 2, Z: r.Intn(4) - 2}, r.Intn(256))
			l = append(l, p)
			sets(t, "however much", w, m, p, []int{0, 1, 10, 11, 13, 13}[r.Intn(6)])
			q := l[other.Intn(len(l))]
			switch other.Intn(5) {
			case 0:
				gets(t, "however much", w, q, m.get(q))
			case 1:
				writes, dirty := d.Writes(), m.dirty[chunkOf(q)]
				answers(t, "Evict", w.Evict(chunkOf(q)), api.OK)
				if dirty {
					m.save()
				}
				if (d.Writes() > writes) != dirty {
					t.Errorf("Evict wrote %d blocks, dirty: %v", d.Writes()-writes, dirty)
				}
			case 2:
				shines(t, "however much", w, m, q)
			}
		}
		slices.Reverse(l)
		for _, p := range l {
			gets(t, "at last", w, p, m.get(p))
		}
		scans(t, "at last", w, m, api.Box{A: cell(-32, 110, -32), B: cell(31, 110, 31)})
		sky, lamps := m.shine(api.At{X: -1})
		for i := 108 * 256; i < api.Cells; i += 7 {
			if s, l, e := w.Light(cell(i%16-16, i/256, i/16%16)); s != int(sky[i]) || l != int(lamps[i]) || e != api.OK {
				t.Fatalf("most %d, place %d: light %d, %d, error %d, not %d, %d", most, i, s, l, e, sky[i], lamps[i])
			}
		}
		keeps(t, "at last", w, m)
	}
}
