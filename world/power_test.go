package world

import (
	"testing"

	"outcrop/api"
	"outcrop/disk"
)

// saving are the calls that save edits of four dirty chunks.
func saving() map[string]func(w *World) api.Errno {
	return map[string]func(w *World) api.Errno{
		"Sync":   (*World).Sync,
		"Set":    func(w *World) api.Errno { return w.Set(at(api.At{X: 1, Z: -1}, 5), api.Brick) },
		"Evict":  func(w *World) api.Errno { return w.Evict(api.At{X: -1}) },
		"Reopen": (*World).Reopen,
	}
}

// P23.2, P23.7: wherever within a call that saves the power goes out, it answers ErrDown, and so does each call behind it, also when the power is back; behind the opening, by New or by Reopen, either all that was to be saved is there or none of it.
func TestPowerOutAtEachBlock(t *testing.T) {
	for what, call := range saving() {
		shown := map[bool]int{}
		for n := 1; ; n++ {
			w, m := four(t, 4, 9)
			w.disk.Cut(n)
			e := call(w)
			if e == api.OK {
				break
			}
			answers(t, what, e, api.ErrDown)
			if w.disk.On() || w.Stat().Pinned != 0 || w.Stat().Dirty > 4 {
				t.Fatalf("%s, cut at %d: power %v, %v", what, n, w.disk.On(), w.Stat())
			}
			if n%7 == 0 {
				refuses(t, what+", without power", w)
			}
			w.disk.Up()
			refuses(t, what+", with power", w)
			shown[opensAgain(t, what, w, m)]++
		}
		if shown[true] == 0 || shown[false] < 9 {
			t.Errorf("%s: all saved %d times, none %d times", what, shown[true], shown[false])
		}
	}
}

// opensAgain opens what a cut has left, by New with the power going out again at each block of it, and by Reopen. It tells whether all is there that was to be saved.
func opensAgain(t *testing.T, what string, w *World, m *model) bool {
	t.Helper()
	saved := m.edits.copied()
	all := 0
	for n := 0; ; n++ {
		d := copyOf(t, w.disk)
		d.Cut(n)
		v, e := New(7, 2, d)
		if on := d.On(); on != (e == api.OK) || on != (v != nil) {
			t.Fatalf("%s, again at %d: error %d, power %v", what, n, e, on)
		}
		d.Up()
		begun(t, 7, 2, d)
		if x := onDisk(t, d); x.equal(saved) {
			all++
		} else if !x.equal(m.saved) {
			t.Fatalf("%s, again at %d: other edits than before and behind the Save", what, n)
		}
		if e == api.OK {
			return reopens(t, what, w, m, all, n+1)
		}
	}
}

// reopens checks that all those openings have shown the same, and that Reopen shows it too.
func reopens(t *testing.T, what string, w *World, m *model, all, many int) bool {
	t.Helper()
	if all != 0 && all != many {
		t.Fatalf("%s: all is saved behind %d of %d openings", what, all, many)
	}
	answers(t, what+", Reopen", w.Reopen(), api.OK)
	if all > 0 {
		m.save()
	} else {
		m.lose()
	}
	keeps(t, what, w, m)
	for _, i := range []int{1, 900, 3} {
		gets(t, what, w, at(api.At{}, i), m.get(at(api.At{}, i)))
	}
	sets(t, what, w, m, at(api.At{}, 5), api.Lamp)
	answers(t, what+", Sync", w.Sync(), api.OK)
	return all > 0
}

// P23.7: what was ahead of a Sync that was answered OK is there, whatever comes behind it; what was set behind it is there as far as it was saved, in order.
func TestPowerOutWithinARow(t *testing.T) {
	for n := 0; n < 500; n += 7 {
		d := disk.New()
		w := begun(t, 7, 100, d)
		m := modelOf(7)
		shown := []table{{}}
		synced := 0
		d.Cut(n)
		e := api.OK
		for i := 0; i < 24 && e == api.OK; i++ {
			p := at(api.At{X: i % 5, Z: i % 7}, i)
			if e = w.Set(p, api.Brick); e == api.OK {
				m.set(p, api.Brick)
				shown = append(shown, m.edits.copied())
			}
			if e == api.OK && i%10 == 9 {
				if e = w.Sync(); e == api.OK {
					synced = len(shown) - 1
				}
			}
		}
		if (e == api.OK) != d.On() || e != api.OK && e != api.ErrDown {
			t.Fatalf("cut at %d: error %d, power %v", n, e, d.On())
		}
		d.Up()
		begun(t, 7, 1, d)
		if x := onDisk(t, d); !among(x, shown[synced:]) {
			t.Errorf("cut at %d: the edits are not those of the first so many Sets, from %d to %d", n, synced, len(shown)-1)
		}
	}
}

// among tells whether a table is one of a list.
func among(x table, l []table) bool {
	for _, y := range l {
		if x.equal(y) {
			return true
		}
	}
	return false
}

// P23.2: when the power is out, a call that would write nothing answers ErrDown too, whatever is kept.
func TestOutBehindEachCall(t *testing.T) {
	for what, call := range map[string]func(w *World) api.Errno{
		"Get":   func(w *World) api.Errno { _, e := w.Get(cell(0, 120, 0)); return e },
		"Light": func(w *World) api.Errno { _, _, e := w.Light(cell(0, 120, 0)); return e },
		"Scan":  func(w *World) api.Errno { _, e := w.Scan(api.Box{}); return e },
		"Set":   func(w *World) api.Errno { return w.Set(cell(0, 120, 0), api.Air) },
		"Evict": func(w *World) api.Errno { return w.Evict(api.At{X: 77}) },
		"Sync":  (*World).Sync,
	} {
		w := begun(t, 7, 30, disk.New())
		answers(t, what, call(w), api.OK)
		w.disk.Cut(0)
		answers(t, what+" without power", call(w), api.ErrDown)
		if x := w.Stat(); x.Computed != 0 || x.Writes != 0 {
			t.Errorf("%s: %v", what, x)
		}
		w.disk.Up()
		answers(t, what+" with power", call(w), api.ErrDown)
		refuses(t, what, w)
		answers(t, what+" Reopen", w.Reopen(), api.OK)
		answers(t, what+" behind it", call(w), api.OK)
		w.disk.Cut(0)
		w.disk.Up()
		answers(t, what+" when nothing was asked meanwhile", call(w), api.OK)
	}
}
