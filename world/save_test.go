package world

import (
	"bytes"
	"testing"

	"outcrop/api"
	"outcrop/disk"
)

// four is a world with so many dirty chunks, at most four, of different regions, over edits that were saved; and its model.
func four(t *testing.T, many, most int) (*World, *model) {
	t.Helper()
	d, m := disk.New(), modelOf(7)
	m.edits[api.At{}] = dots(20, api.Sand)
	m.edits[api.At{X: 1, Z: 1}] = dots(3, api.Gold)
	write(t, d, m.edits)
	m.save()
	w := begun(t, 7, most, d)
	for n, c := range []api.At{{}, {X: -1}, {X: -1, Z: -1}, {Z: -1}}[:many] {
		sets(t, "dirty", w, m, at(c, 900+n), api.Brick)
		sets(t, "dirty", w, m, at(c, 1), api.Glass)
	}
	return w, m
}

// P23.5: Evict of a chunk that is kept, of one that is not, and of one that is dirty: that saves the edits of all dirty chunks; the others save nothing.
func TestEvict(t *testing.T) {
	for _, many := range []int{0, 1, 3, 4} {
		w, m := four(t, many, 30)
		before := w.Stat()
		for _, c := range []api.At{{X: 9}, {X: 1}, {X: 1, Z: 1}, {X: -2}, {X: 65536, Z: -65536}} {
			w.Get(at(c, 7))
			answers(t, "not dirty", w.Evict(c), api.OK)
			answers(t, "not dirty, not kept", w.Evict(c), api.OK)
			if w.kept.Pin(c) {
				t.Errorf("%v is kept", c)
			}
			keeps(t, "not dirty", w, m)
		}
		if x := w.Stat(); x.Writes != before.Writes || x.Dirty != many {
			t.Errorf("%d dirty: %v, not %v", many, x, before)
		}
		c := api.At{X: -1}
		answers(t, "a dirty one", w.Evict(c), api.OK)
		if many > 1 {
			m.save()
		}
		keeps(t, "a dirty one", w, m)
		if w.kept.Pin(c) {
			t.Errorf("%v is kept", c)
		}
		wrote := w.Stat().Writes
		answers(t, "a dirty one again", w.Evict(c), api.OK)
		if x := w.Stat(); x.Writes != wrote || (x.Writes > before.Writes) != (many > 1) {
			t.Errorf("%d dirty: %v, not %v", many, x, before)
		}
		for _, c := range nine(api.At{}) {
			gets(t, "behind it", w, at(c, 1), m.get(at(c, 1)))
			gets(t, "behind it", w, at(c, 901), m.get(at(c, 901)))
		}
	}
}

// P23.5: a dirty chunk that is not kept any more is dirty still, and is saved by its Evict.
func TestEvictOfWhatIsNotKept(t *testing.T) {
	w, m := four(t, 2, 1)
	w.Get(cell(800, 0, 0))
	for _, c := range []api.At{{}, {X: -1}} {
		if w.kept.Pin(c) {
			t.Errorf("%v is kept", c)
		}
	}
	keeps(t, "not kept", w, m)
	gets(t, "not kept", w, at(api.At{}, 900), api.Brick)
	w.Get(cell(800, 0, 0))
	answers(t, "Evict", w.Evict(api.At{}), api.OK)
	m.save()
	keeps(t, "evicted", w, m)
	gets(t, "evicted", w, at(api.At{}, 900), api.Brick)
}

// P23.5: Sync saves the edits of all dirty chunks at once; of none it writes nothing.
func TestSync(t *testing.T) {
	for many := range 5 {
		w, m := four(t, many, 3)
		before := w.Stat().Writes
		keeps(t, "ahead", w, m)
		answers(t, "Sync", w.Sync(), api.OK)
		m.save()
		keeps(t, "Sync", w, m)
		wrote := w.Stat().Writes
		if (wrote > before) != (many > 0) {
			t.Errorf("%d dirty: %d blocks written", many, wrote-before)
		}
		answers(t, "Sync again", w.Sync(), api.OK)
		if x := w.Stat(); x.Writes != wrote || x.Dirty != 0 {
			t.Errorf("%d dirty: %v, %d writes before", many, x, wrote)
		}
	}
}

// P23.5: the four are saved by one Save: no fewer blocks would be written, and no more, if the store were handed all of them at once.
func TestOneSave(t *testing.T) {
	for _, call := range []func(w *World) api.Errno{
		(*World).Sync, (*World).Reopen,
		func(w *World) api.Errno { return w.Evict(api.At{X: -1}) },
		func(w *World) api.Errno { return w.Set(at(api.At{X: 2}, 5), api.Brick) },
	} {
		w, m := four(t, 4, 9)
		other := copyOf(t, w.disk)
		before := other.Writes()
		dirty := table{}
		for c := range m.dirty {
			dirty[c] = m.edits[c]
		}
		write(t, other, dirty)
		wrote := w.Stat().Writes
		answers(t, "a call that saves", call(w), api.OK)
		if got, want := w.Stat().Writes-wrote, other.Writes()-before; got != want {
			t.Errorf("%d blocks written, not %d", got, want)
		}
	}
}

// P23.5: Reopen saves what is dirty first, and begins anew from the disk: nothing is kept, nothing is dirty, all edits are there.
func TestReopen(t *testing.T) {
	for many := range 5 {
		w, m := four(t, many, 9)
		before := w.Stat().Writes
		answers(t, "Reopen", w.Reopen(), api.OK)
		m.save()
		keeps(t, "Reopen", w, m)
		x := w.Stat()
		if (x.Writes > before) != (many > 0) || x.Resident != 0 || x.Computed != 0 {
			t.Errorf("%d dirty: %v, %d writes before", many, x, before)
		}
		scans(t, "Reopen", w, m, api.Box{A: cell(-4, 110, -4), B: cell(19, 116, 19)})
		answers(t, "Reopen again", w.Reopen(), api.OK)
		if y := w.Stat(); y.Writes != x.Writes {
			t.Errorf("%d dirty: %v, %d writes before", many, y, x.Writes)
		}
	}
}

// P23.5: Reopen without power brings it back and saves nothing: what was not saved is gone, what was saved is there.
func TestReopenWithoutPower(t *testing.T) {
	for many := range 5 {
		w, m := four(t, many, 9)
		before := w.Stat().Writes
		w.disk.Cut(0)
		answers(t, "Reopen", w.Reopen(), api.OK)
		if m.lose(); !w.disk.On() || w.Stat().Writes != before {
			t.Errorf("power: %v, %v, %d writes before", w.disk.On(), w.Stat(), before)
		}
		keeps(t, "Reopen", w, m)
		scans(t, "Reopen", w, m, api.Box{A: cell(-4, 110, -4), B: cell(19, 116, 19)})
		sets(t, "behind it", w, m, at(api.At{}, 3), api.Lamp)
		answers(t, "Sync", w.Sync(), api.OK)
		m.save()
		keeps(t, "behind it", w, m)
	}
}

// P23.5: so it does behind a call that has answered ErrDown, though the power is back since.
func TestReopenBehindErrDown(t *testing.T) {
	w, m := four(t, 4, 9)
	before := w.Stat().Writes
	w.disk.Cut(0)
	answers(t, "Sync", w.Sync(), api.ErrDown)
	w.disk.Up()
	refuses(t, "the power is back", w)
	keeps(t, "the power is back", w, m)
	answers(t, "Reopen", w.Reopen(), api.OK)
	m.lose()
	keeps(t, "Reopen", w, m)
	if w.Stat().Writes != before {
		t.Errorf("%d blocks written", w.Stat().Writes-before)
	}
	gets(t, "Reopen", w, at(api.At{}, 900), api.Air)
	gets(t, "Reopen", w, at(api.At{}, 3), api.Sand)
}

// P23.5: but when no call has answered ErrDown, and the power is back, what is dirty is saved.
func TestReopenWhenNothingWasAsked(t *testing.T) {
	w, m := four(t, 3, 9)
	w.disk.Cut(0)
	w.Stat()
	w.Get(cell(0, 128, 0))
	w.disk.Up()
	answers(t, "Reopen", w.Reopen(), api.OK)
	m.save()
	keeps(t, "Reopen", w, m)
}

// P23.5, P23.2: Reopen forgets a Cut that is still to come.
func TestReopenForgetsACut(t *testing.T) {
	w, m := four(t, 0, 9)
	w.disk.Cut(1)
	answers(t, "Reopen", w.Reopen(), api.OK)
	sets(t, "behind it", w, m, at(api.At{}, 3), api.Lamp)
	answers(t, "Sync", w.Sync(), api.OK)
	m.save()
	keeps(t, "behind it", w, m)
}

// P23.5, R1: the error of New is Reopen's, and what the world was it is still.
func TestReopenOfASpoiledJournal(t *testing.T) {
	w, m := four(t, 0, 9)
	head := api.File{Kind: api.FileJournal}
	was, _ := w.disk.Read(head, 0)
	w.disk.Write(head, 0, []byte("a block that no journal has made."[:32]))
	answers(t, "spoiled", w.Reopen(), api.ErrSum)
	gets(t, "spoiled", w, at(api.At{}, 3), api.Sand)
	w.disk.Write(head, 0, was)
	answers(t, "mended", w.Reopen(), api.OK)
	keeps(t, "mended", w, m)
}

// P23.5, R1: the world stays down when such a Reopen is refused; none that is refused computes anything.
func TestRefusedReopen(t *testing.T) {
	w, m := four(t, 4, 9)
	w.Get(cell(-300, 0, 0))
	w.disk.Cut(3)
	answers(t, "cut", w.Reopen(), api.ErrDown)
	if x := w.Stat(); x.Computed != 0 || w.disk.On() {
		t.Errorf("cut: %v, power %v", x, w.disk.On())
	}
	w.disk.Up()
	refuses(t, "cut", w)
	head := api.File{Kind: api.FileJournal}
	was, _ := w.disk.Read(head, 0)
	w.disk.Write(head, 0, []byte("a block that no journal has made."[:32]))
	answers(t, "spoiled", w.Reopen(), api.ErrSum)
	refuses(t, "spoiled", w)
	w.disk.Write(head, 0, was)
	answers(t, "mended", w.Reopen(), api.OK)
	m.lose()
	keeps(t, "mended", w, m)
}

// R5: the same calls write the same blocks, in the same order, whatever order a map has.
func TestSameBlocksAgain(t *testing.T) {
	var first []byte
	for turn := range 20 {
		w := begun(t, 7, 30, disk.New())
		for x := range 4 {
			answers(t, "Set", w.Set(cell(64*x, 120, 0), api.Brick), api.OK)
		}
		answers(t, "Sync", w.Sync(), api.OK)
		var all []byte
		for i := range w.disk.Len(api.File{Kind: api.FileJournal}) {
			b, _ := w.disk.Read(api.File{Kind: api.FileJournal}, i)
			all = append(all, b...)
		}
		if turn == 0 {
			first = all
		}
		if !bytes.Equal(all, first) || len(all) == 0 {
			t.Fatalf("turn %d: other blocks in the journal", turn)
		}
	}
}

// P23.5: what a journal has left behind is done, or dropped, ahead of the world's being there.
func TestUnsavedIsGoneForNewToo(t *testing.T) {
	w, m := four(t, 4, 9)
	other := begun(t, 7, 2, copyOf(t, w.disk))
	m.lose()
	keeps(t, "another world", other, m)
	scans(t, "another world", other, m, api.Box{A: cell(-4, 110, -4), B: cell(19, 116, 19)})
}
