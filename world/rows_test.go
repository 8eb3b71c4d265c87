package world

import (
	"math/rand"
	"testing"

	"outcrop/api"
	"outcrop/disk"
	"outcrop/grid"
)

// row is many calls in a row of a world, with its model beside it, and a tally of what came of them.
type row struct {
	t     *testing.T
	r     *rand.Rand
	w     *World
	m     *model
	most  int
	down  bool
	tally map[string]int
}

// cell is some cell of some chunks about the corner of four regions, mostly high above the ground.
func (x *row) cell() api.Pos {
	p := cell(x.r.Intn(64)-32, 110+x.r.Intn(3), x.r.Intn(48)-24)
	if x.r.Intn(4) == 0 {
		p.Y = x.r.Intn(128)
	}
	return p
}

// answered takes in a call's error. With a power that is out no other one than ErrDown may come.
func (x *row) answered(what string, e, want api.Errno) bool {
	x.t.Helper()
	if x.down || !x.w.disk.On() {
		want = api.ErrDown
	}
	if e != want {
		x.t.Fatalf("%s: error %d, not %d", what, e, want)
	}
	x.down = x.down || e == api.ErrDown
	x.tally[what]++
	if e == api.ErrDown {
		x.tally[what+" down"]++
	}
	return e == api.OK
}

// stat checks what holds between calls, and what was written by one that may not save.
func (x *row) stat(what string, cap, wrote int) {
	x.t.Helper()
	s := x.w.Stat()
	if s.Resident > x.most || s.Pinned != 0 || s.Dirty > 4 || s.Computed > cap || s.Writes != x.w.disk.Writes() {
		x.t.Fatalf("%s: %v", what, s)
	}
	if wrote >= 0 && s.Writes != wrote {
		x.t.Fatalf("%s: %d blocks written", what, s.Writes-wrote)
	}
	if !x.down && s.Dirty != len(x.m.dirty) {
		x.t.Fatalf("%s: %d dirty, not %d", what, s.Dirty, len(x.m.dirty))
	}
}

func (x *row) get() {
	p, wrote := x.cell(), x.w.disk.Writes()
	k, e := x.w.Get(p)
	if x.answered("get", e, api.OK) && k != x.m.get(p) {
		x.t.Fatalf("Get(%v): %d, not %d", p, k, x.m.get(p))
	}
	x.stat("get", 21, wrote)
}

func (x *row) light() {
	p, wrote := x.cell(), x.w.disk.Writes()
	s, l, e := x.w.Light(p)
	if x.answered("light", e, api.OK) {
		if sky, lamps := x.m.light(p); s != sky || l != lamps {
			x.t.Fatalf("Light(%v): %d, %d, not %d, %d", p, s, l, sky, lamps)
		}
	}
	x.stat("light", 78, wrote)
}

func (x *row) scan() {
	a, b, wrote := x.cell(), x.cell(), x.w.disk.Writes()
	box := api.Box{A: cell(min(a.X, b.X), min(a.Y, b.Y), min(a.Z, b.Z)), B: cell(max(a.X, b.X), max(a.Y, b.Y), max(a.Z, b.Z))}
	l, e := x.w.Scan(box)
	switch {
	case grid.Count(box) > 8192:
		answers(x.t, "scan", e, api.ErrLong)
		x.tally["scan long"]++
	case x.answered("scan", e, api.OK) && string(l) != string(x.m.scan(box)):
		x.t.Fatalf("Scan(%v): other blocks", box)
	}
	x.stat("scan", 1000, wrote)
}

// set is a Set, now and then of what was there or is generated; with the power that is cut, of the model too.
func (x *row) set() {
	p, k := x.cell(), x.r.Intn(16)
	switch x.r.Intn(5) {
	case 0:
		k = x.m.get(p)
	case 1:
		k = x.m.g.generated(chunkOf(p)).Get(placeOf(p))
	}
	wrote, saves := x.w.disk.Writes(), x.m.saves(p, k)
	e := x.w.Set(p, k)
	if x.down || !x.w.disk.On() {
		x.answered("set", e, api.ErrDown)
		x.stat("set", 21, -1)
		return
	}
	want := x.m.set(p, k)
	x.answered("set", e, want)
	if want == api.ErrRegionFull {
		x.tally["set full"]++
	}
	if saves {
		x.tally["set saves"]++
		wrote = -1
	}
	x.stat("set", 21, wrote)
}

// saved is a call that saves what is dirty, if it is to.
func (x *row) saved(what string, is bool, call func() api.Errno) {
	wrote := x.w.disk.Writes()
	if x.answered(what, call(), api.OK) && is {
		x.m.save()
		x.tally[what+" saves"]++
		wrote = -1
	}
	if x.down {
		wrote = -1
	}
	x.stat(what, 0, wrote)
}

func (x *row) evict() {
	c := chunkOf(x.cell())
	x.saved("evict", x.m.dirty[c], func() api.Errno { return x.w.Evict(c) })
}

func (x *row) sync() { x.saved("sync", len(x.m.dirty) > 0, x.w.Sync) }

// reopen begins anew, by Reopen or by New. What the power has cut off is there then, or is not.
func (x *row) reopen() {
	if x.r.Intn(2) == 0 {
		x.renew()
		return
	}
	saves := x.w.disk.On() && !x.down
	e := x.w.Reopen()
	if !x.w.disk.On() {
		answers(x.t, "reopen", e, api.ErrDown)
		x.down = true
		x.tally["reopen down"]++
		return
	}
	answers(x.t, "reopen", e, api.OK)
	x.tally["reopen"]++
	if saves {
		x.m.save()
	}
	x.shown()
}

// renew begins anew by New, with room for another number of chunks.
func (x *row) renew() {
	d := x.w.disk
	if x.r.Intn(2) == 0 && !d.On() {
		d.Up()
		d.Cut(1 + x.r.Intn(12))
	}
	if !d.On() {
		d.Up()
	}
	most := 1 + x.r.Intn(40)
	w, e := New(x.m.g.seed, most, d)
	if e == api.ErrDown && !d.On() {
		x.down = true
		x.tally["new down"]++
		return
	}
	answers(x.t, "new", e, api.OK)
	x.w, x.most = w, most
	x.tally["new"]++
	x.shown()
}

// shown takes in what a world has behind an opening: what was saved, or all that was to be.
func (x *row) shown() {
	now := onDisk(x.t, x.w.disk)
	switch {
	case now.equal(x.m.saved):
		x.tally["shown as saved"]++
	case x.down && now.equal(x.m.edits):
		x.m.save()
		x.tally["shown with more"]++
	default:
		x.t.Fatalf("other edits are shown than were saved")
	}
	x.m.lose()
	x.down = false
	x.stat("opened", 0, -1)
}

// cut lets the power go out at once or in a while, or come back.
func (x *row) cut() {
	switch x.r.Intn(4) {
	case 0:
		x.w.disk.Cut(0)
	case 1:
		x.w.disk.Up()
	default:
		x.w.disk.Cut(1 + x.r.Intn(120))
	}
	x.tally["cut"]++
}

// nearlyFull are edits of two chunks that leave room for few more in their regions.
func nearlyFull() table {
	x := table{}
	for c, n := range map[api.At]int{{X: -2, Z: -2}: 34, {X: 1, Z: 1}: 36} {
		x[c] = filling(c, n, api.Sand)
	}
	return x
}

// play is a row of calls.
func (x *row) play(many int, power bool) {
	for range many {
		switch n := x.r.Intn(40); {
		case n < 20:
			x.set()
		case n < 25:
			x.get()
		case n < 27:
			x.light()
		case n < 30:
			x.scan()
		case n < 34:
			x.evict()
		case n < 36:
			x.sync()
		case n == 36:
			x.reopen()
		case power:
			x.cut()
		}
		if x.down && x.r.Intn(3) == 0 {
			x.reopen()
		}
	}
}

// P23.1 to P23.8: many calls in a row are as the model has them, with the power going out here and there, and without.
func TestRows(t *testing.T) {
	tally := map[string]int{}
	for n, most := range []int{1, 2, 4, 9, 30, 60, 3, 25} {
		x := &row{t: t, r: rand.New(rand.NewSource(int64(n))), m: modelOf(uint64(n % 2)), most: most, tally: tally}
		d := disk.New()
		x.m.edits = nearlyFull()
		write(t, d, x.m.edits)
		x.m.save()
		x.w = begun(t, x.m.g.seed, most, d)
		x.play(300, n >= 4)
		d.Up()
		x.w.Get(cell(0, 0, 0))
		if !x.down {
			scans(t, "at the end", x.w, x.m, api.Box{A: cell(-32, 110, -24), B: cell(31, 110, 23)})
		}
		if t.Failed() {
			return
		}
	}
	for _, what := range []string{"get", "get down", "light", "scan", "scan long", "set", "set down", "set full", "set saves", "evict", "evict saves", "evict down", "sync saves", "sync down", "reopen", "reopen down", "new", "shown as saved", "shown with more"} {
		if tally[what] == 0 {
			t.Errorf("%s: never", what)
		}
	}
}
