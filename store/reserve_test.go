package store

import (
	"testing"

	"outcrop/api"
	"outcrop/chunk"
)

// P22.2: a region of nothing has room for 38 sectors beside its header, and for not one more, whichever chunk it is.
func TestReserveOfOne(t *testing.T) {
	for _, c := range far() {
		d, s := fresh(t)
		reserves(t, "one more", d, s, api.ErrRegionFull, c, over(38, api.Lamp))
		reserves(t, "far too many", d, s, api.ErrRegionFull, c, dots(16000, api.Lamp))
		reserves(t, "just", d, s, api.OK, c, filling(38, api.Lamp))
	}
}

// P22.2: a chunk of edits without None, and one of air alone, need what they have in a slot; None alone and no chunk need nothing.
func TestReserveOfOtherChunks(t *testing.T) {
	d, s := fresh(t)
	reserves(t, "37", d, s, api.OK, api.At{X: 1}, filling(37, 1))
	for what, x := range map[string]*chunk.Chunk{"air": chunk.New(), "lamps": chunk.Full(api.Lamp)} {
		reserves(t, what, d, s, api.OK, api.At{X: 2}, x)
		reserves(t, what+", a second one", d, s, api.ErrRegionFull, api.At{X: 3}, x)
		reserves(t, what+" let go", d, s, api.OK, api.At{X: 2}, nil)
	}
	reserves(t, "38", d, s, api.OK, api.At{X: 1}, filling(38, 1))
	reserves(t, "none in a full region", d, s, api.OK, api.At{X: 2}, chunk.Full(api.None))
	reserves(t, "nil in a full region", d, s, api.OK, api.At{X: 3}, nil)
	reserves(t, "one in a full region", d, s, api.ErrRegionFull, api.At{X: 3}, dots(1, 1))
}

// P22.2: what other chunks of the region have in their slots counts, at just 40 and at one more.
func TestReserveOverSlots(t *testing.T) {
	d, s := fresh(t)
	saves(t, "slots", d, s, api.OK, edit(api.At{X: -4, Z: 0}, filling(10, 1)), edit(api.At{X: -1, Z: 3}, filling(7, 1)), edit(api.At{X: 0, Z: 3}, filling(30, 1)))
	for range 2 {
		reserves(t, "one more", d, s, api.ErrRegionFull, api.At{X: -2, Z: 1}, over(21, 1))
		reserves(t, "just", d, s, api.OK, api.At{X: -2, Z: 1}, filling(21, 1))
		reserves(t, "behind it", d, s, api.ErrRegionFull, api.At{X: -3, Z: 1}, dots(1, 1))
		s = opened(t, d)
	}
}

// P22.2: a chunk's own slot does not count beside what it is to have, though it is on the disk still.
func TestReserveInsteadOfItsSlot(t *testing.T) {
	d, s := fresh(t)
	c, beside := api.At{X: 5, Z: 5}, api.At{X: 6, Z: 5}
	saves(t, "its slot", d, s, api.OK, edit(c, filling(30, 1)))
	reserves(t, "as much again", d, s, api.OK, c, filling(30, 1))
	reserves(t, "all", d, s, api.OK, c, filling(38, 1))
	reserves(t, "one more", d, s, api.ErrRegionFull, c, over(38, 1))
	reserves(t, "less", d, s, api.OK, c, filling(8, 1))
	reserves(t, "one more beside it", d, s, api.ErrRegionFull, beside, over(30, 1))
	reserves(t, "what it leaves", d, s, api.OK, beside, filling(30, 1))
	reserves(t, "nothing", d, s, api.OK, c, nil)
	reserves(t, "all beside it", d, s, api.OK, beside, filling(38, 1))
	reserves(t, "its slot, which it has let go", d, s, api.ErrRegionFull, c, dots(1, 1))
	loads(t, "nothing was saved", d, s, c, filling(30, 1))
	loads(t, "nothing was saved", d, s, beside, nil)
}

// P22.2, R5: what was reserved counts till it is said anew, for each chunk by itself; other regions are not asked.
func TestReserveOverReserved(t *testing.T) {
	d, s := fresh(t)
	reserves(t, "a", d, s, api.OK, api.At{X: 0}, filling(20, 1))
	reserves(t, "b", d, s, api.OK, api.At{X: 1}, filling(18, 1))
	reserves(t, "c", d, s, api.ErrRegionFull, api.At{X: 2}, dots(1, 1))
	reserves(t, "another region", d, s, api.OK, api.At{X: 4}, filling(38, 1))
	reserves(t, "another region", d, s, api.OK, api.At{X: 0, Z: -1}, filling(38, 1))
	reserves(t, "a, less by one", d, s, api.OK, api.At{X: 0}, filling(19, 1))
	reserves(t, "c, two", d, s, api.ErrRegionFull, api.At{X: 2}, over(1, 1))
	reserves(t, "c, one", d, s, api.OK, api.At{X: 2}, filling(1, 1))
	reserves(t, "a, as it was", d, s, api.ErrRegionFull, api.At{X: 0}, filling(20, 1))
}

// P22.2, R1: one that is refused changes nothing: what the chunk is to have stays.
func TestRefusedReserve(t *testing.T) {
	d, s := fresh(t)
	reserves(t, "a", d, s, api.OK, api.At{X: 0}, filling(20, 1))
	reserves(t, "a, too many", d, s, api.ErrRegionFull, api.At{X: 0}, over(38, 1))
	reserves(t, "b, just", d, s, api.OK, api.At{X: 1}, filling(18, 1))
	reserves(t, "a, one more", d, s, api.ErrRegionFull, api.At{X: 0}, over(20, 1))
	reserves(t, "b, one more", d, s, api.ErrRegionFull, api.At{X: 1}, over(18, 1))
	reserves(t, "c", d, s, api.ErrRegionFull, api.At{X: 2}, dots(1, 1))
	reserves(t, "a, none", d, s, api.OK, api.At{X: 0}, nil)
	reserves(t, "c, what a has left", d, s, api.OK, api.At{X: 2}, filling(20, 1))
}

// P22.2, P22.1: what is reserved is of that store alone, and is not on the disk.
func TestReservedIsNotSaved(t *testing.T) {
	d, s := fresh(t)
	reserves(t, "all", d, s, api.OK, api.At{}, filling(38, 1))
	loads(t, "not saved", d, s, api.At{}, nil)
	if many := whole(t, "not saved", s, api.At{}); many != 0 {
		t.Errorf("%d sectors behind Reserve alone", many)
	}
	reserves(t, "another store", d, opened(t, d), api.OK, api.At{X: 1}, filling(38, 1))
	reserves(t, "the same one", d, s, api.ErrRegionFull, api.At{X: 1}, dots(1, 1))
}

// P22.3: what was reserved is forgotten behind a Save that is OK, of whatever chunk, and of none.
func TestForgotten(t *testing.T) {
	for what, l := range map[string][]api.Edit{
		"none": nil, "that chunk": {edit(api.At{}, filling(2, 1))}, "one of another region": {edit(api.At{X: 90}, filling(2, 1))},
		"one beside it": {edit(api.At{X: 1}, filling(2, 1))}, "nothing of it": {edit(api.At{}, chunk.Full(api.None))},
	} {
		d, s := fresh(t)
		reserves(t, what, d, s, api.OK, api.At{}, filling(20, 1))
		reserves(t, what, d, s, api.OK, api.At{X: 3}, filling(18, 1))
		reserves(t, what, d, s, api.OK, api.At{X: 4}, filling(38, 1))
		saves(t, what, d, s, api.OK, l...)
		reserves(t, what+", forgotten", d, s, api.OK, api.At{X: 2}, filling(36, 1))
		reserves(t, what+", forgotten", d, s, api.OK, api.At{X: 5}, filling(38, 1))
	}
}

// P22.3: it is not forgotten behind a Save that is not OK, whatever was amiss.
func TestNotForgotten(t *testing.T) {
	d, s := fresh(t)
	spoil(t, d, api.At{X: 9, Z: 9})
	var many []api.Edit
	for i := range 7 {
		many = append(many, edit(api.At{X: 40 + 4*i}, filling(38, 1)))
	}
	for what, x := range map[string]struct {
		l    []api.Edit
		want api.Errno
	}{
		"twice":   {[]api.Edit{edit(api.At{}, dots(1, 1)), edit(api.At{}, dots(2, 1))}, api.ErrArg},
		"short":   {[]api.Edit{{C: api.At{}, Cells: make([]byte, 32767)}}, api.ErrArg},
		"spoiled": {[]api.Edit{edit(api.At{X: 36, Z: 36}, dots(1, 1))}, api.ErrForm},
		"full":    {[]api.Edit{edit(api.At{}, over(38, 1))}, api.ErrRegionFull},
		"many":    {many, api.ErrFull},
	} {
		reserves(t, what, d, s, api.OK, api.At{}, filling(20, 1))
		saves(t, what, d, s, x.want, x.l...)
		reserves(t, what+", one more", d, s, api.ErrRegionFull, api.At{X: 1}, over(18, 1))
		reserves(t, what+", just", d, s, api.OK, api.At{X: 1}, filling(18, 1))
		saves(t, what+", all", d, s, api.OK)
	}
	reserves(t, "down", d, s, api.OK, api.At{}, filling(20, 1))
	d.Cut(0)
	saves(t, "down", d, s, api.ErrDown)
	d.Up()
	reserves(t, "down, one more", d, s, api.ErrRegionFull, api.At{X: 1}, over(18, 1))
	saves(t, "up", d, s, api.OK)
	reserves(t, "up", d, s, api.OK, api.At{X: 1}, filling(38, 1))
}

// P22.2, P22.3: edits of all dirty chunks that were reserved are saved; what was reserved holds for Save's sectors to the last one.
func TestReservedIsSaved(t *testing.T) {
	d, s := fresh(t)
	saves(t, "old", d, s, api.OK, edit(api.At{X: 0}, filling(5, 1)), edit(api.At{X: 1}, filling(3, 1)))
	l := []api.Edit{edit(api.At{X: 0}, filling(12, 2)), edit(api.At{X: 2}, filling(22, 2)), edit(api.At{X: 3}, filling(1, 2))}
	for i, n := range []int{12, 22, 1} {
		reserves(t, "new", d, s, api.OK, l[i].C, filling(n, 2))
	}
	reserves(t, "full", d, s, api.ErrRegionFull, api.At{X: 0, Z: 1}, dots(1, 1))
	saves(t, "new", d, s, api.OK, l...)
	if many := whole(t, "new", s, api.At{}); many != 38 {
		t.Errorf("%d sectors, not 38", many)
	}
	reserves(t, "full on the disk", d, s, api.ErrRegionFull, api.At{X: 0, Z: 1}, dots(1, 1))
}
