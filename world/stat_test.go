package world

import (
	"math/rand"
	"testing"

	"outcrop/api"
	"outcrop/disk"
)

// counts checks what Stat tells of the last call, and that asking it changes nothing.
func counts(t *testing.T, what string, w *World, want api.Stat) {
	t.Helper()
	for range 2 {
		if x := w.Stat(); x != want {
			t.Errorf("%s: %v, not %v", what, x, want)
		}
	}
}

// P23.6: what each call computes in a world that keeps all: of a chunk's blocks 21 stages, of its light 78; none of it twice.
func TestComputed(t *testing.T) {
	w := begun(t, 7, 100, disk.New())
	counts(t, "New", w, api.Stat{})
	w.Get(cell(0, 50, 0))
	counts(t, "Get", w, api.Stat{Computed: 21, Resident: 9})
	w.Get(cell(15, 127, 15))
	counts(t, "Get again", w, api.Stat{Resident: 9})
	w.Light(cell(3, 3, 3))
	counts(t, "Light", w, api.Stat{Computed: 57, Resident: 25})
	w.Light(cell(15, 127, 0))
	counts(t, "Light again", w, api.Stat{Resident: 25})
	w.Get(cell(-1, 9, 16))
	counts(t, "Get beside it", w, api.Stat{Resident: 25})
	w.Scan(api.Box{A: cell(-16, 5, -16), B: cell(31, 5, 31)})
	counts(t, "Scan of what is there", w, api.Stat{Resident: 25})
	w.Scan(api.Box{A: cell(-16, 5, -16), B: cell(32, 5, 31)})
	counts(t, "Scan of three more", w, api.Stat{Computed: 5 + 5 + 3*3, Resident: 30})
	w.Light(cell(16, 5, 0))
	counts(t, "Light beside it", w, api.Stat{Computed: 1, Resident: 30})
	w.Evict(api.At{X: 1})
	counts(t, "Evict", w, api.Stat{Resident: 29})
	w.Get(cell(16, 5, 0))
	counts(t, "Get of what was let go", w, api.Stat{Computed: 5, Resident: 30})
	w.Light(cell(0, 5, 0))
	counts(t, "Light of what is kept still", w, api.Stat{Resident: 30})
	w.Light(cell(500, 5, 500))
	counts(t, "Light elsewhere", w, api.Stat{Computed: 78, Resident: 55})
}

// P23.6: what a Set computes, and a Light behind it: only light that may be another one.
func TestComputedBySet(t *testing.T) {
	w := begun(t, 7, 100, disk.New())
	w.Set(cell(0, 120, 0), api.Lamp)
	counts(t, "Set", w, api.Stat{Computed: 21, Resident: 9, Dirty: 1})
	w.Set(cell(0, 120, 0), api.Air)
	counts(t, "Set again", w, api.Stat{Resident: 9, Dirty: 1})
	w.Light(cell(0, 120, 0))
	counts(t, "Light", w, api.Stat{Computed: 57, Resident: 25, Dirty: 1})
	w.Set(cell(0, 120, 0), api.Air)
	w.Light(cell(0, 120, 0))
	counts(t, "Light behind a Set of the same kind", w, api.Stat{Resident: 25, Dirty: 1})
	w.Set(cell(-1, 120, -1), api.Glass)
	counts(t, "Set beside it", w, api.Stat{Resident: 25, Dirty: 2})
	w.Light(cell(0, 120, 0))
	counts(t, "Light behind it", w, api.Stat{Computed: 1, Resident: 25, Dirty: 2})
}

// P23.6: the calls of which nothing is computed tell 0, and so does what was refused.
func TestComputedOfOthers(t *testing.T) {
	d := disk.New()
	for what, call := range map[string]func(w *World) api.Errno{
		"Sync":   (*World).Sync,
		"Evict":  func(w *World) api.Errno { return w.Evict(api.At{X: 9}) },
		"Get":    func(w *World) api.Errno { _, e := w.Get(cell(0, 128, 0)); return e },
		"Light":  func(w *World) api.Errno { _, _, e := w.Light(cell(0, -1, 0)); return e },
		"Scan":   func(w *World) api.Errno { _, e := w.Scan(api.Box{B: cell(8192, 0, 0)}); return e },
		"Set":    func(w *World) api.Errno { return w.Set(cell(0, 0, 0), 16) },
		"Evict2": func(w *World) api.Errno { return w.Evict(api.At{X: 65537}) },
	} {
		w := begun(t, 7, 9, d)
		w.Get(cell(0, 0, 0))
		counts(t, what, w, api.Stat{Computed: 21, Resident: 9})
		call(w)
		counts(t, what, w, api.Stat{Resident: 9})
	}
	w := begun(t, 7, 9, d)
	w.Get(cell(0, 0, 0))
	w.Reopen()
	counts(t, "Reopen", w, api.Stat{})
	w.Get(cell(0, 0, 0))
	d.Cut(0)
	w.Get(cell(0, 0, 0))
	counts(t, "without power", w, api.Stat{Resident: 9})
}

// P23.6: behind each call at most most chunks are resident, and none is pinned; Get and Light of the same chunk once more compute nothing and write nothing, with room for one chunk too.
func TestRoom(t *testing.T) {
	for _, most := range []int{1, 2, 9, 24, 25, 26, 40} {
		r := rand.New(rand.NewSource(int64(most)))
		d := disk.New()
		w := begun(t, 7, most, d)
		for turn := range 30 {
			c := api.At{X: r.Intn(6) - 3, Z: r.Intn(6) - 3}
			call, cap := func(p api.Pos) api.Errno { _, e := w.Get(p); return e }, 21
			if turn%2 == 0 {
				call, cap = func(p api.Pos) api.Errno { _, _, e := w.Light(p); return e }, 78
			}
			if r.Intn(3) == 0 {
				answers(t, "Set", w.Set(at(c, r.Intn(4096)), r.Intn(16)), api.OK)
				roomy(t, w, most, 21)
			}
			answers(t, "a call", call(at(c, 0)), api.OK)
			roomy(t, w, most, cap)
			writes := d.Writes()
			for range 3 {
				answers(t, "again", call(at(c, r.Intn(4096))), api.OK)
				if x := w.Stat(); x.Computed != 0 || x.Writes != writes {
					t.Errorf("most %d: again: %v, %d writes before", most, x, writes)
				}
			}
		}
	}
}

// roomy checks what Stat tells between calls.
func roomy(t *testing.T, w *World, most, cap int) {
	t.Helper()
	if x := w.Stat(); x.Resident > most || x.Resident < 1 || x.Pinned != 0 || x.Computed > cap || x.Dirty > 4 || x.Writes != w.disk.Writes() {
		t.Errorf("most %d: %v", most, x)
	}
}

// P23.6: of the chunks that are kept those that were used least recently go; the one that was asked for stays.
func TestWhichAreKept(t *testing.T) {
	w := begun(t, 7, 3, disk.New())
	for x := range 5 {
		w.Get(cell(160*x, 0, 0))
		if keys := w.kept.Keys(); len(keys) != 3 || keys[2] != (api.At{X: 10 * x}) {
			t.Errorf("Get of %d: %v", 10*x, keys)
		}
		w.Light(cell(160*x, 0, 160))
		if keys := w.kept.Keys(); len(keys) != 3 || keys[2] != (api.At{X: 10 * x, Z: 10}) {
			t.Errorf("Light of %d: %v", 10*x, keys)
		}
	}
}

// P23.6: while a call goes on, all chunks that it needs are pinned, so that none of them goes; behind it none is.
func TestPinnedMeanwhile(t *testing.T) {
	w := begun(t, 7, 3, disk.New())
	w.Get(cell(800, 0, 0))
	answers(t, "grow", w.grow(api.Task{Stage: api.StLight, C: api.At{}}), api.OK)
	counts(t, "meanwhile", w, api.Stat{Computed: 21 + 78, Resident: 3 + 25, Pinned: 25})
	if gone := w.kept.Trim(); len(gone) != 0 {
		t.Errorf("%v are let go", gone)
	}
	w.letGo()
	counts(t, "behind it", w, api.Stat{Computed: 21 + 78, Resident: 3})
	if len(w.pinned) != 0 {
		t.Errorf("%v are in the list still", w.pinned)
	}
}

// P23.6: caves and veins are let go with the blocks' being there: no call needs them any more.
func TestNoMoreIsKeptThanNeeded(t *testing.T) {
	w := begun(t, 7, 30, disk.New())
	w.Light(cell(0, 0, 0))
	for _, c := range w.kept.Keys() {
		if s, _ := w.kept.Get(c); s.caves != nil || s.veins != nil || (s.sky != nil) != (c == api.At{}) {
			t.Errorf("%v keeps caves, veins, or light that nobody asked for", c)
		}
	}
}

// P23.6: Writes are the disk's, whoever has written.
func TestWrites(t *testing.T) {
	d := disk.New()
	w := begun(t, 7, 9, d)
	d.Write(api.File{Kind: 9}, 0, make([]byte, 32))
	counts(t, "another file", w, api.Stat{Writes: 1})
	w.Set(cell(0, 120, 0), 3)
	w.Sync()
	if x := w.Stat(); x.Writes != d.Writes() || x.Writes < 2 || x.Dirty != 0 {
		t.Errorf("Sync: %v, %d writes", x, d.Writes())
	}
}
