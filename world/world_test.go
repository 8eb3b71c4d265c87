package world

import (
	"bytes"
	"math"
	"testing"

	"outcrop/api"
	"outcrop/disk"
)

// P23.1 to P23.5: the chapter's examples.
func TestExamples(t *testing.T) {
	w := begun(t, 7, 9, disk.New())
	gets(t, "the lowest cell", w, cell(0, 0, 0), 15)
	answers(t, "Set", w.Set(cell(0, 100, 0), 13), api.OK)
	if _, lamps, e := w.Light(cell(0, 100, 0)); lamps != 14 || e != api.OK {
		t.Errorf("light of lamps %d, error %d", lamps, e)
	}
	answers(t, "Reopen", w.Reopen(), api.OK)
	gets(t, "reopened", w, cell(0, 100, 0), 13)
	if k, e := w.Get(cell(1<<20+1, 0, 0)); k != 0 || e != api.ErrOutOfWorld {
		t.Errorf("beyond the world: %d, error %d", k, e)
	}
}

// The document's examples of the whole, as far as they are calls of this layer, on worlds of several seeds and rooms.
func TestExamplesOfTheWhole(t *testing.T) {
	for seed, most := range map[uint64]int{0: 1, 7: 9, 1 << 63: 200} {
		w := begun(t, seed, most, disk.New())
		answers(t, "a lamp", w.Set(cell(3, 120, 4), api.Lamp), api.OK)
		lit(t, w, cell(3, 120, 4), 14, 14)
		lit(t, w, cell(3, 120, 9), 15, 9)
		answers(t, "a stone", w.Set(cell(0, 120, 0), api.Stone), api.OK)
		lit(t, w, cell(0, 119, 0), 14, w.lampsAt(cell(0, 119, 0)))
		lit(t, w, cell(0, 120, 0), 0, 0)
		answers(t, "a brick", w.Set(cell(5, 120, 5), api.Brick), api.OK)
		answers(t, "Evict", w.Evict(api.At{}), api.OK)
		gets(t, "evicted", w, cell(5, 120, 5), api.Brick)
		answers(t, "gold", w.Set(cell(5, 120, 5), api.Gold), api.OK)
		answers(t, "Reopen", w.Reopen(), api.OK)
		gets(t, "reopened", w, cell(5, 120, 5), api.Gold)
		gets(t, "the world's border", w, cell(1<<20, 0, 0), api.Bedrock)
		answers(t, "above the world", w.Set(cell(0, 128, 0), api.Stone), api.ErrOutOfWorld)
		_, e := w.Scan(api.Box{B: cell(200, 100, 200)})
		answers(t, "too long", e, api.ErrLong)
		_, e = w.Scan(api.Box{A: cell(1, 0, 0)})
		answers(t, "swapped", e, api.ErrOutOfWorld)
	}
}

// lit checks a cell's light.
func lit(t *testing.T, w *World, p api.Pos, sky, lamps int) {
	t.Helper()
	if s, l, e := w.Light(p); s != sky || l != lamps || e != api.OK {
		t.Errorf("Light(%v): %d, %d, error %d, not %d, %d", p, s, l, e, sky, lamps)
	}
}

// lampsAt is a cell's light of lamps.
func (w *World) lampsAt(p api.Pos) int {
	_, lamps, _ := w.Light(p)
	return lamps
}

// P23.1: most below 1 is told ahead of all else; 1 and more may be, however many.
func TestNewOfMost(t *testing.T) {
	out, foreign := disk.New(), spoiled(t)
	out.Cut(0)
	for _, most := range []int{0, -1, -9, math.MinInt} {
		for _, d := range []*disk.Disk{disk.New(), out, foreign, nil} {
			if w, e := New(7, most, d); w != nil || e != api.ErrArg {
				t.Errorf("most %d: %v, error %d", most, w, e)
			}
		}
	}
	for _, most := range []int{1, 2, 25, 1 << 20, math.MaxInt} {
		w := begun(t, 7, most, disk.New())
		gets(t, "bedrock", w, cell(0, 0, 0), api.Bedrock)
		gets(t, "bedrock", w, cell(-500, 0, 77), api.Bedrock)
		if x := w.Stat(); x.Resident > most || x.Resident < 1 {
			t.Errorf("most %d: %v", most, x)
		}
	}
}

// spoiled is a disk whose journal no journal has written.
func spoiled(t *testing.T) *disk.Disk {
	t.Helper()
	d := disk.New()
	if e := d.Write(api.File{Kind: api.FileJournal}, 0, bytes.Repeat([]byte{0xff}, 32)); e != api.OK {
		t.Fatalf("Write: %d", e)
	}
	return d
}

// P23.1: the store's errors: of a power that is out, of a journal that refuses. No disk has no power.
func TestNewRefused(t *testing.T) {
	out := disk.New()
	out.Cut(0)
	for what, x := range map[string]struct {
		d    *disk.Disk
		want api.Errno
	}{"out": {out, api.ErrDown}, "none": {nil, api.ErrDown}, "spoiled": {spoiled(t), api.ErrSum}} {
		if w, e := New(7, 9, x.d); w != nil || e != x.want {
			t.Errorf("%s: %v, error %d", what, w, e)
		}
		if x.d.Writes() > 1 {
			t.Errorf("%s: New has written", what)
		}
	}
}

// P23.1: of an empty disk there are no edits, and New writes nothing; of one that was written there are those that it has.
func TestNewOfDisks(t *testing.T) {
	d := disk.New()
	w, m := begun(t, 7, 4, d), modelOf(7)
	if x := w.Stat(); x != (api.Stat{}) {
		t.Errorf("empty: %v", x)
	}
	scans(t, "empty", w, m, api.Box{A: cell(-8, 100, -8), B: cell(7, 127, 7)})

	m.edits = table{{X: 0, Z: 0}: {28160: api.Glass, 0: api.Gold}, {X: -1, Z: -1}: {32767: api.Lamp}, {X: 90, Z: 4}: {5: api.Sand}}
	write(t, d, m.edits)
	writes := d.Writes()
	w = begun(t, 7, 4, d)
	if x := w.Stat(); x != (api.Stat{Writes: writes}) || writes == 0 {
		t.Errorf("written: %v", x)
	}
	for c, l := range m.edits {
		for i, k := range l {
			gets(t, "written", w, api.Pos{X: c.X*16 + i%16, Y: i / 256, Z: c.Z*16 + i/16%16}, k)
		}
	}
	scans(t, "written", w, m, api.Box{A: cell(-8, 100, -8), B: cell(7, 127, 7)})
	shines(t, "written", w, m, cell(-3, 127, -3))
	if d.Writes() != writes {
		t.Errorf("%d blocks written", d.Writes()-writes)
	}
}

// P23.1, P23.3: what a disk has of another seed is laid over this one's blocks: where it is as generated, it is no edit.
func TestNewOfAnotherSeed(t *testing.T) {
	d, m := disk.New(), modelOf(8)
	w := begun(t, 7, 4, d)
	i := m.g.generated(api.At{}).Diff(groundOf(7).generated(api.At{}))[0]
	p, k := cell(i%16, i/256, i/16%16), m.g.generated(api.At{}).Get(i)
	answers(t, "Set", w.Set(p, k), api.OK)
	answers(t, "Set", w.Set(cell(4, 120, 4), api.Lamp), api.OK)
	answers(t, "Sync", w.Sync(), api.OK)

	w = begun(t, 8, 4, d)
	gets(t, "generated", w, p, k)
	gets(t, "an edit", w, cell(4, 120, 4), api.Lamp)
	m.edits[api.At{}] = map[int]int{120<<8 | 4<<4 | 4: api.Lamp}
	sets(t, "another edit", w, m, cell(5, 120, 4), api.Brick)
	answers(t, "Sync", w.Sync(), api.OK)
	if x := onDisk(t, d); !x.equal(m.edits) {
		t.Errorf("on the disk: %v", x)
	}
}

// P23.1, R1: a region file that another one has written is told by the store's error, of its own chunks and of light that needs them; nothing has changed then, and the world goes on elsewhere.
func TestSpoiledRegion(t *testing.T) {
	d := disk.New()
	for i := range 2 {
		d.Write(api.File{Kind: api.FileRegion}, i, bytes.Repeat([]byte{0xff}, 32))
	}
	w, m := begun(t, 7, 30, d), modelOf(7)
	sets(t, "elsewhere", w, m, cell(-1, 120, 5), api.Lamp)
	before := w.Stat()
	k, e := w.Get(cell(0, 120, 0))
	answers(t, "Get", e, api.ErrForm)
	sky, lamps, e := w.Light(cell(-1, 120, 5))
	answers(t, "Light", e, api.ErrForm)
	l, e := w.Scan(api.Box{A: cell(-3, 120, 0), B: cell(90, 120, 0)})
	answers(t, "Scan", e, api.ErrForm)
	if k != 0 || sky != 0 || lamps != 0 || len(l) != 0 {
		t.Errorf("beside an error: %d; %d, %d; %v", k, sky, lamps, l)
	}
	answers(t, "Set", w.Set(cell(63, 120, 63), api.Lamp), api.ErrForm)
	answers(t, "Evict", w.Evict(api.At{}), api.OK)
	if x := w.Stat(); x.Pinned != 0 || x.Writes != before.Writes || x.Dirty != 1 {
		t.Errorf("%v, not %v", x, before)
	}
	gets(t, "elsewhere", w, cell(-1, 120, 5), api.Lamp)
	shines(t, "elsewhere", w, m, cell(-17, 120, 5))
	answers(t, "Sync", w.Sync(), api.OK)
}

// beyond are cells that are not in the world: just outside, and at the ends of the numbers.
func beyond() []api.Pos {
	const far = 1 << 20
	return []api.Pos{
		{X: far + 1}, {X: -far - 1}, {Y: 128}, {Y: -1}, {Z: far + 1}, {Z: -far - 1},
		{X: far + 1, Y: 127, Z: far}, {X: -far, Y: 128, Z: -far}, {X: far, Y: -1, Z: -far},
		{X: math.MaxInt}, {X: math.MinInt}, {Y: math.MaxInt}, {Y: math.MinInt}, {Z: math.MaxInt}, {Z: math.MinInt},
		{X: math.MinInt, Y: math.MinInt, Z: math.MinInt}, {X: math.MaxInt, Y: math.MaxInt, Z: math.MaxInt},
	}
}

// corners are the cells at the world's ends.
func corners() []api.Pos {
	const far = 1 << 20
	var l []api.Pos
	for i := range 8 {
		p := cell(far, 127, far)
		if i&1 > 0 {
			p.X = -far
		}
		if i&2 > 0 {
			p.Y = 0
		}
		if i&4 > 0 {
			p.Z = -far
		}
		l = append(l, p)
	}
	return l
}

// amiss are calls whose arguments are wrong, with what each answers.
type amiss struct {
	what string
	call func(w *World) api.Errno
	want api.Errno
}

// amissCells are calls of a cell or a box that is not in the world. Those that could have another error too have the one that comes first.
func amissCells(t *testing.T) []amiss {
	var l []amiss
	for _, p := range beyond() {
		l = append(l, amiss{"Get", func(w *World) api.Errno {
			k, e := w.Get(p)
			if k != 0 {
				t.Errorf("Get(%v): %d beside error %d", p, k, e)
			}
			return e
		}, api.ErrOutOfWorld}, amiss{"Light", func(w *World) api.Errno {
			sky, lamps, e := w.Light(p)
			if sky != 0 || lamps != 0 {
				t.Errorf("Light(%v): %d, %d beside error %d", p, sky, lamps, e)
			}
			return e
		}, api.ErrOutOfWorld})
		for _, k := range []int{0, 15, -1, 16, math.MinInt, math.MaxInt} {
			l = append(l, amiss{"Set", func(w *World) api.Errno { return w.Set(p, k) }, api.ErrOutOfWorld})
		}
		for _, b := range []api.Box{{A: p, B: p}, {A: p}, {B: p}, {A: cell(-90, 0, -90), B: p}, {A: p, B: cell(90, 127, 90)}} {
			l = append(l, amissBoxOf(t, b, api.ErrOutOfWorld))
		}
	}
	return l
}

// amissBoxOf is a Scan of a box that is wrong.
func amissBoxOf(t *testing.T, b api.Box, want api.Errno) amiss {
	return amiss{"Scan", func(w *World) api.Errno {
		l, e := w.Scan(b)
		if len(l) != 0 {
			t.Errorf("Scan(%v): %d cells beside error %d", b, len(l), e)
		}
		return e
	}, want}
}

// amissOthers are the other calls with wrong arguments.
func amissOthers(t *testing.T) []amiss {
	const far = 1 << 20
	var l []amiss
	for _, p := range append(corners(), cell(0, 0, 0), cell(-1, 100, 15)) {
		for _, k := range []int{-1, 16, 17, math.MinInt, math.MaxInt} {
			l = append(l, amiss{"Set", func(w *World) api.Errno { return w.Set(p, k) }, api.ErrKind})
		}
	}
	for _, b := range []api.Box{
		{B: cell(8192, 0, 0)}, {B: cell(0, 127, 64)}, {B: cell(31, 15, 16)}, {B: cell(2730, 2, 0)}, {B: cell(200, 100, 200)},
		{A: cell(-far, 0, -far), B: cell(far, 127, far)}, {A: cell(far-8192, 5, 3), B: cell(far, 5, 3)},
	} {
		l = append(l, amissBoxOf(t, b, api.ErrLong))
	}
	for _, b := range []api.Box{
		{A: cell(1, 0, 0)}, {A: cell(0, 1, 0)}, {A: cell(0, 0, 1)}, {A: cell(5, 0, 0), B: cell(4, 127, 900)},
		{A: cell(far, 0, 0), B: cell(-far, 127, far)}, {A: cell(0, 127, 0), B: cell(far, 0, far)}, {A: cell(-1, 0, far), B: cell(far, 0, -far)},
	} {
		l = append(l, amissBoxOf(t, b, api.ErrOutOfWorld))
	}
	for _, v := range []int{-65537, 65537, math.MinInt, math.MaxInt} {
		for _, c := range []api.At{{X: v}, {Z: v}, {X: v, Z: v}, {X: v, Z: 65536}, {X: -65536, Z: v}} {
			l = append(l, amiss{"Evict", func(w *World) api.Errno { return w.Evict(c) }, api.ErrOutOfWorld})
		}
	}
	return l
}

// P23.2: what is wrong with arguments is told by the first error that fits, and ahead of any work.
func TestWrongArguments(t *testing.T) {
	d := disk.New()
	w, m := begun(t, 7, 9, d), modelOf(7)
	sets(t, "dirty", w, m, cell(0, 120, 0), api.Brick)
	before := w.Stat()
	before.Computed = 0
	for _, x := range append(amissCells(t), amissOthers(t)...) {
		answers(t, x.what, x.call(w), x.want)
		if now := w.Stat(); now != before {
			t.Fatalf("%s: %v, not %v", x.what, now, before)
		}
	}
	keeps(t, "behind them", w, m)
	scans(t, "behind them", w, m, api.Box{A: cell(-3, 110, -3), B: cell(3, 127, 3)})
}

// P23.2: they are told when the power is out too, and are no answers of ErrDown: when it is back, the world goes on.
func TestWrongArgumentsWithoutPower(t *testing.T) {
	d := disk.New()
	w, m := begun(t, 7, 9, d), modelOf(7)
	sets(t, "dirty", w, m, cell(0, 120, 0), api.Brick)
	d.Cut(0)
	for _, x := range append(amissCells(t), amissOthers(t)...) {
		answers(t, x.what, x.call(w), x.want)
	}
	d.Up()
	gets(t, "the power is back", w, cell(0, 120, 0), api.Brick)
	answers(t, "Sync", w.Sync(), api.OK)
	m.save()
	keeps(t, "Sync", w, m)

	d.Cut(0)
	answers(t, "Sync", w.Sync(), api.ErrDown)
	for _, on := range []bool{false, true} {
		if on {
			d.Up()
		}
		for _, x := range append(amissCells(t), amissOthers(t)...) {
			answers(t, x.what, x.call(w), x.want)
		}
	}
}

// P23.2, P23.3: cells at the world's corners are in it; all kinds from 0 to 15 may be set there.
func TestCorners(t *testing.T) {
	w, m := begun(t, 99, 3, disk.New()), modelOf(99)
	for _, p := range corners() {
		gets(t, "a corner", w, p, m.get(p))
		scans(t, "a corner", w, m, api.Box{A: p, B: p})
	}
	for _, p := range corners()[:3] {
		for k := range 16 {
			answers(t, "a kind", sets(t, "a corner", w, m, p, k), api.OK)
			gets(t, "a corner", w, p, k)
		}
		shines(t, "a corner", w, m, p)
	}
	answers(t, "Sync", w.Sync(), api.OK)
	m.save()
	keeps(t, "corners", w, m)
}

// P23.2, P23.5: chunks from -65536 to 65536 may be let go, whether anything of them is kept or not.
func TestEvictAtTheBorders(t *testing.T) {
	w := begun(t, 7, 9, disk.New())
	for _, x := range []int{-65536, 0, 65536} {
		for _, z := range []int{-65536, 7, 65536} {
			c := api.At{X: x, Z: z}
			answers(t, "not kept", w.Evict(c), api.OK)
			if _, e := w.Get(cell(16*x, 0, 16*z)); e != api.OK || !w.kept.Pin(c) || !w.kept.Unpin(c) {
				t.Errorf("%v: error %d, or it is not kept", c, e)
			}
			answers(t, "kept", w.Evict(c), api.OK)
			if w.kept.Pin(c) {
				t.Errorf("%v is kept", c)
			}
		}
	}
}

// P1, R1: no world, and one that New has not made, are without power; nothing panics.
func TestNoWorld(t *testing.T) {
	for what, w := range map[string]*World{"nil": nil, "zero": {}} {
		for _, x := range append(amissCells(t), amissOthers(t)...) {
			answers(t, what+" "+x.what, x.call(w), x.want)
		}
		refuses(t, what, w)
		answers(t, what+" Reopen", w.Reopen(), api.ErrDown)
		if x := w.Stat(); x != (api.Stat{}) {
			t.Errorf("%s: %v", what, x)
		}
	}
}

// refuses checks that each call that would do something answers ErrDown, and nothing beside.
func refuses(t *testing.T, what string, w *World) {
	t.Helper()
	p := cell(1, 120, 1)
	k, e := w.Get(p)
	answers(t, what+" Get", e, api.ErrDown)
	sky, lamps, e := w.Light(p)
	answers(t, what+" Light", e, api.ErrDown)
	l, e := w.Scan(api.Box{A: p, B: p})
	answers(t, what+" Scan", e, api.ErrDown)
	if k != 0 || sky != 0 || lamps != 0 || len(l) != 0 {
		t.Errorf("%s: beside ErrDown %d; %d, %d; %v", what, k, sky, lamps, l)
	}
	answers(t, what+" Set", w.Set(p, api.Lamp), api.ErrDown)
	answers(t, what+" Evict", w.Evict(api.At{}), api.ErrDown)
	answers(t, what+" Sync", w.Sync(), api.ErrDown)
}

// R3: what Scan answers is the caller's own.
func TestScanIsTheCallersOwn(t *testing.T) {
	w, m := begun(t, 7, 9, disk.New()), modelOf(7)
	b := api.Box{A: cell(-2, 30, -2), B: cell(20, 40, 3)}
	first, _ := w.Scan(b)
	clear(first)
	scans(t, "behind it", w, m, b)
	second, _ := w.Scan(b)
	third := bytes.Clone(second)
	for p := range 3 {
		sets(t, "a Set", w, m, cell(p, 35, 0), api.Lamp)
	}
	if !bytes.Equal(second, third) {
		t.Error("a Set has changed an answer of before")
	}
}
