package store

import (
	"bytes"
	"math"
	"slices"
	"testing"

	"outcrop/api"
	"outcrop/chunk"
	"outcrop/codec"
	"outcrop/disk"
	"outcrop/region"
)

// dots are edits of so many cells, no two side by side: in a slot they have 4n + 8 bytes, a run for each cell and each gap.
func dots(n, kind int) *chunk.Chunk {
	c := chunk.Full(api.None)
	for i := range n {
		c.Set(2*i+1, kind)
	}
	return c
}

// filling are edits that need just so many sectors, with no byte left over in the last one.
func filling(sectors, kind int) *chunk.Chunk { return dots(8*sectors-2, kind) }

// over are edits that need one sector more, by one cell.
func over(sectors, kind int) *chunk.Chunk { return dots(8*sectors-1, kind) }

// edit is a chunk's edits as they are handed to Save.
func edit(c api.At, edits *chunk.Chunk) api.Edit { return api.Edit{C: c, Cells: edits.Bytes()} }

// regionOf is the region that a chunk is of, told apart from the program.
func regionOf(c api.At) api.At { return api.At{X: c.X >> 2, Z: c.Z >> 2} }

// slotOf is a chunk's slot, told apart from the program.
func slotOf(c api.At) int { return c.Z&3<<2 | c.X&3 }

// opened is a disk's store.
func opened(t *testing.T, d *disk.Disk) *Store {
	t.Helper()
	s, e := Open(d)
	if e != api.OK || s == nil {
		t.Fatalf("Open: %v, error %d", s, e)
	}
	return s
}

// fresh is a store of an empty disk.
func fresh(t *testing.T) (*disk.Disk, *Store) {
	t.Helper()
	d := disk.New()
	return d, opened(t, d)
}

// saves checks what Save answers, and that without OK nothing is written, but for ErrDown.
func saves(t *testing.T, what string, d *disk.Disk, s *Store, want api.Errno, l ...api.Edit) {
	t.Helper()
	before := d.Writes()
	e := s.Save(l)
	if e != want {
		t.Errorf("%s: Save of %d: %d, not %d", what, len(l), e, want)
	}
	if e != api.OK && e != api.ErrDown && d.Writes() != before {
		t.Errorf("%s: Save wrote %d blocks with error %d", what, d.Writes()-before, e)
	}
}

// reserves checks what Reserve answers, and that it writes nothing.
func reserves(t *testing.T, what string, d *disk.Disk, s *Store, want api.Errno, c api.At, edits *chunk.Chunk) {
	t.Helper()
	before := d.Writes()
	if e := s.Reserve(c, edits); e != want {
		t.Errorf("%s: Reserve of %v: %d, not %d", what, c, e, want)
	}
	if d.Writes() != before {
		t.Errorf("%s: Reserve wrote %d blocks", what, d.Writes()-before)
	}
}

// loads checks what Load answers of a chunk that may be loaded: these edits, or none at all.
func loads(t *testing.T, what string, d *disk.Disk, s *Store, c api.At, want *chunk.Chunk) {
	t.Helper()
	before := d.Writes()
	x, e := s.Load(c)
	if d.Writes() != before {
		t.Errorf("%s: Load wrote %d blocks", what, d.Writes()-before)
	}
	if e != api.OK || (x == nil) != (want == nil) {
		t.Errorf("%s: Load of %v: %v, error %d", what, c, x != nil, e)
		return
	}
	if want != nil && !bytes.Equal(x.Bytes(), want.Bytes()) {
		t.Errorf("%s: Load of %v: other edits in %d cells", what, c, len(x.Diff(want)))
	}
}

// refuses checks that Load and Region of a chunk, Reserve and Save of it all answer that error, and nothing beside it.
func refuses(t *testing.T, what string, d *disk.Disk, s *Store, c api.At, want api.Errno) {
	t.Helper()
	in := regionOf(c)
	if x, e := s.Load(c); e != want || x != nil {
		t.Errorf("%s: Load: %v, error %d, not %d", what, x != nil, e, want)
	}
	if r, e := s.Region(in.X, in.Z); e != want || r != nil {
		t.Errorf("%s: Region: %v, error %d, not %d", what, r != nil, e, want)
	}
	reserves(t, what, d, s, want, c, dots(1, api.Lamp))
	reserves(t, what+", too many", d, s, want, c, over(38, api.Lamp))
	saves(t, what, d, s, want, edit(c, dots(1, api.Lamp)))
	saves(t, what+", too many", d, s, want, edit(c, over(38, api.Lamp)))
}

// lies is a region that can be opened.
func lies(t *testing.T, s *Store, in api.At) *region.Region {
	t.Helper()
	r, e := s.Region(in.X, in.Z)
	if e != api.OK || r == nil {
		t.Fatalf("Region(%d, %d): %v, error %d", in.X, in.Z, r, e)
	}
	return r
}

// whole checks that a region's header, slots and free sectors are all of it, each once, and tells how many sectors its slots have.
func whole(t *testing.T, what string, s *Store, in api.At) int {
	t.Helper()
	r := lies(t, s, in)
	var times [40]int
	times[0], times[1] = 1, 1
	many := 0
	for _, x := range r.Live() {
		many += x.Many
	}
	for _, x := range slices.Concat(r.Live(), r.Free()) {
		for i := range x.Many {
			times[x.From+i]++
		}
	}
	for i, n := range times {
		if n != 1 {
			t.Errorf("%s: region %v: sector %d is there %d times", what, in, i, n)
		}
	}
	return many
}

// put writes blocks past the store.
func put(t *testing.T, d *disk.Disk, l ...api.Put) {
	t.Helper()
	for _, p := range l {
		if e := d.Write(p.F, p.I, p.B); e != api.OK {
			t.Fatalf("Write: error %d", e)
		}
	}
}

// laid writes a slot's bytes past the store, whatever they are.
func laid(t *testing.T, d *disk.Disk, c api.At, b []byte) {
	t.Helper()
	in := regionOf(c)
	r, e := region.Open(d, in.X, in.Z)
	if e != api.OK {
		t.Fatalf("region.Open: error %d", e)
	}
	puts, _, e := r.Plan([]api.Change{{Slot: slotOf(c), Data: b}})
	if e != api.OK {
		t.Fatalf("Plan: error %d", e)
	}
	put(t, d, puts...)
}

// spoil makes a region's header none.
func spoil(t *testing.T, d *disk.Disk, in api.At) {
	t.Helper()
	f := api.File{Kind: api.FileRegion, X: in.X, Z: in.Z}
	put(t, d, api.Put{F: f, I: 0, B: bytes.Repeat([]byte{0xff}, 32)})
}

// far are chunks about nought, far from it on either side, and at the ends of the numbers.
func far() []api.At {
	ends := []int{math.MinInt, math.MinInt + 5, -65536, -5, -4, -1, 0, 3, 4, 65536, math.MaxInt - 4, math.MaxInt}
	var l []api.At
	for i, x := range ends {
		l = append(l, api.At{X: x, Z: ends[len(ends)-1-i]}, api.At{X: x, Z: ends[(i+3)%len(ends)]}, api.At{X: x, Z: x})
	}
	return l
}

// The chapter's example: P22.1, P22.3.
func TestExample(t *testing.T) {
	d, s := fresh(t)
	x := chunk.Full(api.None)
	x.Set(0, api.Lamp)
	saves(t, "one cell", d, s, api.OK, edit(api.At{X: 1, Z: 1}, x))
	loads(t, "that", d, s, api.At{X: 1, Z: 1}, x)
	loads(t, "another one", d, s, api.At{X: 1, Z: 2}, nil)
}

// What the helpers of these tests say of sizes is so.
func TestDots(t *testing.T) {
	for _, n := range []int{1, 6, 7, 54, 302, 303} {
		if got := len(codec.Encode(dots(n, api.Lamp))); got != 4*n+8 {
			t.Errorf("dots(%d) have %d bytes, not %d", n, got, 4*n+8)
		}
	}
	if got := len(codec.Encode(filling(38, api.Lamp))); got != 1216 {
		t.Errorf("filling(38) has %d bytes, not 1216", got)
	}
}

// P22.1: Open of an empty disk writes nothing; of one that was written it has what is there; two stores of one disk are two.
func TestOpen(t *testing.T) {
	d, s := fresh(t)
	if d.Writes() != 0 {
		t.Errorf("Open of an empty disk wrote %d blocks", d.Writes())
	}
	c, x := api.At{X: -3, Z: 70}, dots(20, api.Brick)
	saves(t, "first", d, s, api.OK, edit(c, x))
	before := d.Writes()
	other := opened(t, d)
	if other == s {
		t.Error("two of Open are one store")
	}
	if d.Writes() != before {
		t.Errorf("Open wrote %d blocks", d.Writes()-before)
	}
	loads(t, "opened anew", d, other, c, x)
	loads(t, "another chunk", d, other, api.At{X: -2, Z: 70}, nil)
}

// P22.1, P1: journal's error, and no store beside it.
func TestOpenRefused(t *testing.T) {
	d, _ := fresh(t)
	d.Cut(0)
	if s, e := Open(d); e != api.ErrDown || s != nil {
		t.Errorf("without power: %v, error %d", s, e)
	}
	if s, e := Open(nil); e != api.ErrDown || s != nil {
		t.Errorf("no disk: %v, error %d", s, e)
	}
	foreign := disk.New()
	put(t, foreign, api.Put{F: api.File{Kind: api.FileJournal}, I: 0, B: bytes.Repeat([]byte{0xff}, 32)})
	if s, e := Open(foreign); e != api.ErrSum || s != nil {
		t.Errorf("a journal of another one's: %v, error %d", s, e)
	}
}

// P22.1: a region that is spoiled is told when it is asked for, not when the store is opened; the others go on.
func TestSpoiledRegion(t *testing.T) {
	d, s := fresh(t)
	bad, good := api.At{X: 5, Z: -5}, api.At{X: 8, Z: -5}
	saves(t, "both", d, s, api.OK, edit(bad, dots(3, api.Log)), edit(good, dots(4, api.Log)))
	spoil(t, d, regionOf(bad))
	for _, s := range []*Store{s, opened(t, d)} {
		refuses(t, "spoiled", d, s, bad, api.ErrForm)
		refuses(t, "another chunk of it", d, s, api.At{X: 7, Z: -8}, api.ErrForm)
		saves(t, "behind a good one", d, s, api.ErrForm, edit(good, dots(5, api.Log)), edit(bad, dots(5, api.Log)))
		saves(t, "ahead of a full one", d, s, api.ErrForm, edit(good, over(38, api.Log)), edit(bad, dots(5, api.Log)))
		loads(t, "a good one", d, s, good, dots(4, api.Log))
		reserves(t, "a good one", d, s, api.OK, good, filling(38, api.Log))
		saves(t, "a good one", d, s, api.OK, edit(good, dots(4, api.Log)))
	}
}

// P22.1, P22.2, P22.3: without power region's error is told, and the list's own ahead of it; with power again all is as it was.
func TestWithoutPower(t *testing.T) {
	d, s := fresh(t)
	c, x := api.At{X: 2, Z: 3}, dots(9, api.Iron)
	saves(t, "ahead", d, s, api.OK, edit(c, x))
	d.Cut(0)
	refuses(t, "out", d, s, c, api.ErrDown)
	refuses(t, "out, a region that has nothing", d, s, api.At{X: 99, Z: 3}, api.ErrDown)
	saves(t, "out, none", d, s, api.ErrDown)
	saves(t, "out, twice", d, s, api.ErrArg, edit(c, x), edit(c, x))
	saves(t, "out, no chunk's", d, s, api.ErrArg, api.Edit{C: c, Cells: []byte{1}})
	d.Up()
	s = opened(t, d)
	loads(t, "up", d, s, c, x)
}

// P22.1, R4: regions of any number are regions of the disk, and tell what the disk has.
func TestRegions(t *testing.T) {
	d, s := fresh(t)
	for _, c := range far() {
		in := regionOf(c)
		if many := whole(t, "never written", s, in); many != 0 {
			t.Errorf("region %v: %d sectors of a file that was never written", in, many)
		}
	}
	if d.Writes() != 0 {
		t.Errorf("Region wrote %d blocks", d.Writes())
	}
	ends := []int{math.MinInt, -1, 0, 1, math.MaxInt}
	for i, x := range ends {
		for k, z := range ends {
			r := lies(t, s, api.At{X: x, Z: z})
			puts, _, e := r.Plan([]api.Change{{Slot: i, Data: []byte{byte(i), byte(k), 7}}})
			if e != api.OK {
				t.Fatalf("Plan: error %d", e)
			}
			put(t, d, puts...)
		}
	}
	for i, x := range ends {
		for k, z := range ends {
			r := lies(t, s, api.At{X: x, Z: z})
			if b := r.Get(i); !bytes.Equal(b, []byte{byte(i), byte(k), 7}) {
				t.Errorf("region %d, %d: % x in slot %d", x, z, b, i)
			}
		}
	}
}

// P22.1, P22.3: chunks about nought, far from it and at the ends of the numbers each have their own slot of their own region.
func TestChunksEverywhere(t *testing.T) {
	d, s := fresh(t)
	has := map[api.At]*chunk.Chunk{}
	for i, c := range far() {
		x := dots(1+i, 1+i%15)
		reserves(t, "one", d, s, api.OK, c, x)
		saves(t, "one", d, s, api.OK, edit(c, x))
		has[c] = x
	}
	for range 2 {
		for c, x := range has {
			loads(t, "far", d, s, c, x)
			if b := lies(t, s, regionOf(c)).Get(slotOf(c)); !bytes.Equal(b, codec.Encode(x)) {
				t.Errorf("%v: other bytes in slot %d", c, slotOf(c))
			}
		}
		s = opened(t, d)
	}
}

// P22.1, P22.3: the file of a region is the one of its X and Z, and no other file is written but the journal's.
func TestFiles(t *testing.T) {
	d, s := fresh(t)
	saves(t, "three", d, s, api.OK, edit(api.At{X: -1, Z: -4}, dots(1, 1)), edit(api.At{X: 3, Z: 3}, dots(1, 1)), edit(api.At{X: 4, Z: -5}, dots(1, 1)))
	want := []api.File{{Kind: 1}, {Kind: 2, X: -1, Z: -1}, {Kind: 2}, {Kind: 2, X: 1, Z: -2}}
	if l := d.Files(); !slices.Equal(l, want) {
		t.Errorf("files %v, not %v", l, want)
	}
}

// P22.1, P22.3: each of the sixteen chunks of a region has the slot Mod(Z, 4) 4 + Mod(X, 4), whichever region it is.
func TestSlots(t *testing.T) {
	for _, in := range []api.At{{}, {X: -1, Z: -1}, {X: 3, Z: -7}, {X: math.MinInt / 4, Z: math.MaxInt / 4}} {
		d, s := fresh(t)
		var l []api.Edit
		for slot := range 16 {
			l = append(l, edit(api.At{X: in.X*4 + slot%4, Z: in.Z*4 + slot/4}, dots(1+slot, 1+slot%15)))
		}
		saves(t, "sixteen", d, s, api.OK, l...)
		r := lies(t, s, in)
		for slot, x := range l {
			want := dots(1+slot, 1+slot%15)
			if b := r.Get(slot); !bytes.Equal(b, codec.Encode(want)) {
				t.Errorf("region %v: other bytes in slot %d", in, slot)
			}
			loads(t, "sixteen", d, s, x.C, want)
		}
		whole(t, "sixteen", s, in)
	}
}

// P22.1: what stands in a slot and is no chunk is told as Decode tells it; Region and the slots beside it go on.
func TestNoChunkInASlot(t *testing.T) {
	for what, x := range map[string]struct {
		b    []byte
		want api.Errno
	}{
		"one byte":    {[]byte{1}, api.ErrShort},
		"a form 3":    {[]byte{3, 1, 0}, api.ErrForm},
		"no rise":     {[]byte{1, 2, 5, 5}, api.ErrForm},
		"packed":      {[]byte{2, 1, 3}, api.ErrShort},
		"a byte more": {append(codec.Encode(dots(4, 1)), 0), api.ErrLong},
	} {
		d, s := fresh(t)
		c, beside := api.At{X: -2, Z: 9}, api.At{X: -1, Z: 9}
		saves(t, what, d, s, api.OK, edit(beside, dots(2, 2)))
		laid(t, d, c, x.b)
		if y, e := s.Load(c); e != x.want || y != nil {
			t.Errorf("%s: Load: %v, error %d, not %d", what, y != nil, e, x.want)
		}
		loads(t, what, d, s, beside, dots(2, 2))
		whole(t, what, s, regionOf(c))
		saves(t, what, d, s, api.OK, edit(c, dots(3, 3)))
		loads(t, what, d, s, c, dots(3, 3))
	}
}

// P22.1: whatever decodes is told as it is, also what Save would not have written so: a chunk of None alone, and one in another form.
func TestOtherForms(t *testing.T) {
	d, s := fresh(t)
	c := api.At{X: 6, Z: 6}
	laid(t, d, c, codec.Encode(chunk.Full(api.None)))
	loads(t, "None alone", d, s, c, chunk.Full(api.None))
	loose := []byte{1, 3, 2, 9, 16, 100, 1, 0x9c, 0xff, 1, 2}
	laid(t, d, c, loose)
	x := chunk.Full(api.None)
	for i := range 100 {
		x.Set(i, 9)
	}
	loads(t, "a kind that no cell has", d, s, c, x)
}

// R1, P1: no Store at all and one that Open has not made are without power: each call ends and tells so, what is amiss with a list ahead of that.
func TestNoStore(t *testing.T) {
	for what, s := range map[string]*Store{"nil": nil, "zero": {}} {
		for _, c := range far() {
			refuses(t, what, nil, s, c, api.ErrDown)
			if e := s.Reserve(c, nil); e != api.ErrDown {
				t.Errorf("%s: Reserve of nil: %d", what, e)
			}
		}
		saves(t, what, nil, s, api.ErrDown)
		saves(t, what+", twice", nil, s, api.ErrArg, edit(api.At{}, dots(1, 1)), edit(api.At{}, dots(1, 1)))
		saves(t, what+", no chunk's", nil, s, api.ErrArg, api.Edit{})
	}
}

// R3: what Load has answered, and what was handed to Save or Reserve, may be changed without changing the store.
func TestNothingShared(t *testing.T) {
	d, s := fresh(t)
	c, x := api.At{X: 1, Z: -1}, dots(30, api.Gold)
	l := []api.Edit{edit(c, x)}
	saves(t, "handed in", d, s, api.OK, l...)
	clear(l[0].Cells)
	loads(t, "cells changed", d, s, c, x)
	y, _ := s.Load(c)
	y.Fill(0, api.Tall-1, api.Stone)
	loads(t, "answer changed", d, s, c, x)
	said := filling(38, api.Gold)
	reserves(t, "handed in", d, s, api.OK, c, said)
	said.Fill(0, api.Tall-1, api.None)
	reserves(t, "edits changed", d, s, api.ErrRegionFull, api.At{X: 0, Z: -1}, dots(1, api.Gold))
	r := lies(t, s, regionOf(c))
	clear(r.Get(slotOf(c)))
	loads(t, "a slot's bytes changed", d, s, c, x)
}

// R3: what is handed to Save and Reserve stays as it was, whatever they answer.
func TestHandedInStays(t *testing.T) {
	d, s := fresh(t)
	l := []api.Edit{edit(api.At{X: 1}, dots(7, 1)), edit(api.At{X: 9}, dots(8, 2)), edit(api.At{X: 2}, over(38, 3)), {C: api.At{X: 3}, Cells: []byte{17}}}
	for n, want := range []api.Errno{api.OK, api.OK, api.OK, api.ErrRegionFull, api.ErrArg} {
		saves(t, "a part", d, s, want, l[:n]...)
	}
	if !slices.EqualFunc(l, []api.Edit{edit(api.At{X: 1}, dots(7, 1)), edit(api.At{X: 9}, dots(8, 2)), edit(api.At{X: 2}, over(38, 3)), {C: api.At{X: 3}, Cells: []byte{17}}},
		func(a, b api.Edit) bool { return a.C == b.C && bytes.Equal(a.Cells, b.Cells) }) {
		t.Error("Save has changed its list")
	}
	for x, want := range map[*chunk.Chunk]api.Errno{dots(300, 4): api.OK, over(38, 4): api.ErrRegionFull} {
		y := x.Copy()
		reserves(t, "stays", d, s, want, api.At{X: 50}, x)
		if *x != *y {
			t.Error("Reserve has changed its edits")
		}
	}
}
