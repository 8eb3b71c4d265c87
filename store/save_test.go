package store

import (
	"bytes"
	"testing"

	"outcrop/api"
	"outcrop/chunk"
	"outcrop/codec"
	"outcrop/disk"
)

// P22.3: Save of none writes nothing, and changes nothing.
func TestSaveOfNone(t *testing.T) {
	d, s := fresh(t)
	saves(t, "an empty disk", d, s, api.OK)
	if d.Writes() != 0 {
		t.Errorf("%d blocks for no edits", d.Writes())
	}
	saves(t, "one", d, s, api.OK, edit(api.At{X: 7}, dots(5, 5)))
	before := d.Writes()
	saves(t, "none", d, s, api.OK, []api.Edit{}...)
	if d.Writes() != before {
		t.Errorf("%d blocks for no edits", d.Writes()-before)
	}
	loads(t, "none", d, s, api.At{X: 7}, dots(5, 5))
}

// P22.3: chunks of one region and of several are saved at once, and others keep what they had.
func TestSaveOfMany(t *testing.T) {
	d, s := fresh(t)
	has := map[api.At]*chunk.Chunk{{X: -9, Z: 0}: dots(40, 3), {X: 1, Z: 1}: dots(41, 4)}
	for c, x := range has {
		saves(t, "ahead", d, s, api.OK, edit(c, x))
	}
	var l []api.Edit
	for i, c := range []api.At{{X: 0, Z: 0}, {X: -8, Z: 3}, {X: 3, Z: 3}, {X: -5, Z: 1}, {X: 100, Z: -100}, {X: 2, Z: 0}, {X: 1, Z: 2}} {
		has[c] = dots(3+5*i, 6+i)
		l = append(l, edit(c, has[c]))
	}
	saves(t, "seven", d, s, api.OK, l...)
	for range 2 {
		for c, x := range has {
			loads(t, "seven", d, s, c, x)
			whole(t, "seven", s, regionOf(c))
		}
		loads(t, "another one", d, s, api.At{X: 1, Z: 0}, nil)
		s = opened(t, d)
	}
}

// P22.3: later edits of a chunk stand in the place of those ahead of them, whether they are more, less, or as many.
func TestSavedAnew(t *testing.T) {
	d, s := fresh(t)
	c, beside := api.At{X: -1, Z: -1}, api.At{X: -4, Z: -4}
	saves(t, "beside", d, s, api.OK, edit(beside, dots(11, 2)))
	for i, n := range []int{1, 100, 100, 3, 280, 1, 6, 7, 6} {
		saves(t, "anew", d, s, api.OK, edit(c, dots(n, 1+i)))
		loads(t, "anew", d, s, c, dots(n, 1+i))
		loads(t, "beside", d, s, beside, dots(11, 2))
		whole(t, "anew", s, regionOf(c))
	}
}

// P22.3: a chunk that is saved with None everywhere has nothing in its slot behind it, and its sectors are free.
func TestSavedNone(t *testing.T) {
	d, s := fresh(t)
	c, none := api.At{X: 2, Z: 2}, chunk.Full(api.None)
	saves(t, "never saved", d, s, api.OK, edit(c, none))
	loads(t, "never saved", d, s, c, nil)
	for range 2 {
		saves(t, "some", d, s, api.OK, edit(c, filling(38, 7)))
		saves(t, "full", d, s, api.ErrRegionFull, edit(api.At{}, dots(1, 7)))
		saves(t, "none", d, s, api.OK, edit(c, none))
		loads(t, "none", d, s, c, nil)
		if b := lies(t, s, api.At{}).Get(slotOf(c)); len(b) != 0 {
			t.Errorf("%d bytes of no edits", len(b))
		}
		if many := whole(t, "none", s, api.At{}); many != 0 {
			t.Errorf("%d sectors of no edits", many)
		}
		loads(t, "opened anew", d, opened(t, d), c, nil)
	}
	saves(t, "one goes, one comes", d, s, api.OK, edit(api.At{}, filling(38, 1)))
	saves(t, "one goes, one comes", d, s, api.OK, edit(c, filling(38, 2)), edit(api.At{}, none))
	loads(t, "one has gone", d, s, api.At{}, nil)
	loads(t, "one has come", d, s, c, filling(38, 2))
}

// P22.3: whatever a chunk's cells are, Load has them again: also without any None, and with as many kinds as there are.
func TestSavedKinds(t *testing.T) {
	d, s := fresh(t)
	all := chunk.New()
	for k := range 17 {
		all.Fill(k*7, k*7+6, k)
	}
	for i, x := range []*chunk.Chunk{chunk.New(), chunk.Full(api.Bedrock), all, dots(1, api.Air)} {
		c := api.At{X: i, Z: i}
		saves(t, "kinds", d, s, api.OK, edit(c, x))
		loads(t, "kinds", d, s, c, x)
		loads(t, "kinds", d, opened(t, d), c, x)
	}
}

// P22.3: ErrArg of a chunk that stands there twice, wherever, and with the same edits too.
func TestSavedTwice(t *testing.T) {
	d, s := fresh(t)
	for _, c := range far() {
		l := []api.Edit{edit(api.At{X: 50}, dots(1, 1)), edit(c, dots(2, 2)), edit(api.At{X: 51}, dots(3, 3)), edit(c, dots(2, 2))}
		saves(t, "twice", d, s, api.ErrArg, l...)
		saves(t, "twice, other edits", d, s, api.ErrArg, edit(c, dots(2, 2)), edit(c, dots(3, 2)))
		saves(t, "twice, none", d, s, api.ErrArg, edit(c, dots(2, 2)), edit(c, chunk.Full(api.None)))
		saves(t, "twice, none at all", d, s, api.ErrArg, edit(c, chunk.Full(api.None)), edit(c, chunk.Full(api.None)))
		saves(t, "twice, too many", d, s, api.ErrArg, edit(c, over(38, 1)), edit(c, dots(1, 1)))
		loads(t, "twice", d, s, c, nil)
		saves(t, "once", d, s, api.OK, l[:3]...)
		saves(t, "none", d, s, api.OK, edit(c, chunk.Full(api.None)))
	}
}

// P22.3: chunks of the same slot in other regions are not the same one.
func TestSameSlotOfOthers(t *testing.T) {
	d, s := fresh(t)
	l := []api.Edit{edit(api.At{X: 1, Z: 2}, dots(1, 1)), edit(api.At{X: 5, Z: 2}, dots(2, 1)), edit(api.At{X: 1, Z: 6}, dots(3, 1)), edit(api.At{X: -3, Z: -2}, dots(4, 1))}
	saves(t, "same slots", d, s, api.OK, l...)
	for i, x := range l {
		loads(t, "same slots", d, s, x.C, dots(i+1, 1))
	}
}

// P22.3: ErrArg of Cells that are not a chunk's, wherever they stand.
func TestNoChunksCells(t *testing.T) {
	d, s := fresh(t)
	wrong := dots(3, 3).Bytes()
	wrong[32767] = 17
	for what, b := range map[string][]byte{
		"nil": nil, "one": {1}, "short": make([]byte, 32767), "long": make([]byte, 32769), "a kind 17": wrong, "a kind 255": bytes.Repeat([]byte{255}, 32768),
	} {
		bad := api.Edit{C: api.At{X: 3}, Cells: b}
		saves(t, what, d, s, api.ErrArg, bad)
		saves(t, what+" behind others", d, s, api.ErrArg, edit(api.At{X: 1}, dots(1, 1)), edit(api.At{X: 9}, dots(1, 1)), bad)
		saves(t, what+" ahead of others", d, s, api.ErrArg, bad, edit(api.At{X: 1}, dots(1, 1)))
		saves(t, what+" behind too many", d, s, api.ErrArg, edit(api.At{X: 1}, over(38, 1)), bad)
		loads(t, what, d, s, api.At{X: 1}, nil)
	}
}

// P22.3, R2: what is amiss with the list is told ahead of a spoiled region, that ahead of a full one, that ahead of too many blocks.
func TestOrderOfErrors(t *testing.T) {
	d, s := fresh(t)
	bad := api.At{X: -40, Z: 40}
	spoil(t, d, regionOf(bad))
	var many []api.Edit
	for i := range 7 {
		many = append(many, edit(api.At{X: 4 * i}, filling(38, 1)))
	}
	saves(t, "many", d, s, api.ErrFull, many...)
	full := append(many, edit(api.At{X: 400}, over(38, 1)))
	saves(t, "many and full", d, s, api.ErrRegionFull, full...)
	spoiled := append(full, edit(bad, dots(1, 1)))
	saves(t, "many, full and spoiled", d, s, api.ErrForm, spoiled...)
	saves(t, "all of it", d, s, api.ErrArg, append(spoiled, edit(api.At{X: 4}, dots(1, 1)))...)
	saves(t, "all of it", d, s, api.ErrArg, append(spoiled, api.Edit{C: api.At{X: 5}})...)
	for _, x := range full {
		loads(t, "nothing", d, s, x.C, nil)
	}
}

// P22.3: ErrRegionFull at one sector more than there are, of one chunk, of several, and over what other slots have.
func TestSaveInAFullRegion(t *testing.T) {
	d, s := fresh(t)
	saves(t, "one", d, s, api.ErrRegionFull, edit(api.At{}, over(38, 1)))
	saves(t, "far too many", d, s, api.ErrRegionFull, edit(api.At{}, dots(16000, 1)))
	saves(t, "two", d, s, api.ErrRegionFull, edit(api.At{}, filling(20, 1)), edit(api.At{X: 1}, over(18, 1)))
	saves(t, "two, just", d, s, api.OK, edit(api.At{}, filling(20, 1)), edit(api.At{X: 1}, filling(18, 1)))
	saves(t, "a third", d, s, api.ErrRegionFull, edit(api.At{X: 2}, dots(1, 1)))
	saves(t, "one behind a good region", d, s, api.ErrRegionFull, edit(api.At{X: 8}, dots(1, 1)), edit(api.At{X: 1}, over(18, 1)))
	loads(t, "a good region", d, s, api.At{X: 8}, nil)
	saves(t, "a third for it", d, s, api.OK, edit(api.At{X: 2}, filling(19, 2)), edit(api.At{}, filling(1, 2)))
	loads(t, "a third", d, s, api.At{X: 2}, filling(19, 2))
	loads(t, "the first", d, s, api.At{}, filling(1, 2))
	loads(t, "the second", d, s, api.At{X: 1}, filling(18, 1))
}

// P22.3, P5: what fits in number is saved, however badly the sectors lie.
func TestSaveLaidAnew(t *testing.T) {
	d, s := fresh(t)
	var l []api.Edit
	for slot := range 16 {
		l = append(l, edit(api.At{X: slot % 4, Z: slot / 4}, filling(2, 1)))
	}
	saves(t, "sixteen", d, s, api.OK, l...)
	for slot := 0; slot < 16; slot += 2 {
		l[slot] = edit(l[slot].C, chunk.Full(api.None))
	}
	saves(t, "eight", d, s, api.OK, l...)
	saves(t, "as much as is free", d, s, api.OK, edit(api.At{}, filling(22, 3)))
	loads(t, "as much as is free", d, s, api.At{}, filling(22, 3))
	for slot := 1; slot < 16; slot += 2 {
		loads(t, "odd ones", d, s, l[slot].C, filling(2, 1))
	}
	if many := whole(t, "laid anew", s, api.At{}); many != 38 {
		t.Errorf("%d sectors, not 38", many)
	}
}

// P22.3: what was reserved for other chunks holds none of a Save back.
func TestSaveBesideReserved(t *testing.T) {
	d, s := fresh(t)
	reserves(t, "all", d, s, api.OK, api.At{}, filling(38, 1))
	saves(t, "not reserved", d, s, api.OK, edit(api.At{X: 1}, filling(38, 2)))
	loads(t, "not reserved", d, s, api.At{X: 1}, filling(38, 2))
}

// six are edits over six regions that fill them, and so write 240 blocks: each has its header's two blocks, in both of which something stands.
func six() []api.Edit {
	var l []api.Edit
	for i := range 6 {
		l = append(l, edit(api.At{X: 4 * i}, filling(20, 1+i)), edit(api.At{X: 4*i + 3, Z: 3}, filling(18, 1+i)))
	}
	return l
}

// P22.3: 256 blocks are written, and one more is too many.
func TestJustFull(t *testing.T) {
	last := func(n int) []api.Edit {
		return append(six(), edit(api.At{X: -4, Z: -4}, filling(n, 9)), edit(api.At{X: -1, Z: -1}, filling(1, 9)))
	}
	d, s := fresh(t)
	saves(t, "257", d, s, api.ErrFull, last(14)...)
	saves(t, "many more", d, s, api.ErrFull, last(37)...)
	for _, x := range last(14) {
		loads(t, "257", d, s, x.C, nil)
	}
	saves(t, "256", d, s, api.OK, last(13)...)
	for _, x := range last(13) {
		want, _ := chunk.From(x.Cells)
		loads(t, "256", d, s, x.C, want)
	}
}

// P22.3: a list of very many chunks is too many, and ends.
func TestVeryMany(t *testing.T) {
	d, s := fresh(t)
	x := dots(1, 1).Bytes()
	var l []api.Edit
	for i := range 3000 {
		l = append(l, api.Edit{C: api.At{X: i % 60, Z: i / 60}, Cells: x})
	}
	saves(t, "3000", d, s, api.ErrFull, l...)
	saves(t, "3000 and one twice", d, s, api.ErrArg, append(l, l[0])...)
}

// state is what slots have, as bytes, told apart from the program by the chunks that were saved.
type state map[api.At]string

// with is a state behind a Save.
func (x state) with(l []api.Edit) state {
	out := state{}
	for c, b := range x {
		out[c] = b
	}
	for _, e := range l {
		edits, _ := chunk.From(e.Cells)
		out[e.C] = string(codec.Encode(edits))
		if edits.Counts()[api.None] == api.Cells {
			out[e.C] = ""
		}
	}
	return out
}

// on tells whether a store has just these, of all chunks that are named in either.
func (x state) on(t *testing.T, s *Store, named state) bool {
	t.Helper()
	for c := range named {
		if string(lies(t, s, regionOf(c)).Get(slotOf(c))) != x[c] {
			return false
		}
	}
	return true
}

// torn are edits of two regions and those that are saved over them: some go, some come, some grow so that slots are laid anew.
func torn() (old, next []api.Edit) {
	none := chunk.Full(api.None)
	old = []api.Edit{
		edit(api.At{X: 0}, filling(2, 1)), edit(api.At{X: 1}, filling(1, 2)), edit(api.At{X: 2}, filling(2, 3)),
		edit(api.At{X: -1, Z: 2}, dots(3, 4)), edit(api.At{X: -4, Z: 3}, dots(2, 5)),
	}
	next = []api.Edit{
		edit(api.At{X: 1}, none), edit(api.At{X: 0}, filling(3, 7)), edit(api.At{X: 3, Z: 3}, dots(9, 8)),
		edit(api.At{X: -4, Z: 3}, dots(20, 9)), edit(api.At{X: -3, Z: 0}, dots(1, 10)),
	}
	return old, next
}

// between is a disk with the old edits whose power goes out n blocks within the Save of the next ones; what that Save has answered.
func between(t *testing.T, n int) (*disk.Disk, api.Errno) {
	t.Helper()
	old, next := torn()
	d, s := fresh(t)
	saves(t, "old", d, s, api.OK, old...)
	d.Cut(n)
	e := s.Save(next)
	if e != api.OK && e != api.ErrDown {
		t.Fatalf("Cut(%d): Save: error %d", n, e)
	}
	if (e == api.OK) != d.On() {
		t.Errorf("Cut(%d): Save: error %d, power %v", n, e, d.On())
	}
	d.Up()
	return d, e
}

// P22.4, P3: wherever the power goes out within a Save, and within the openings behind it, all its chunks have these edits, or none has, and each region is whole.
func TestPower(t *testing.T) {
	oldList, nextList := torn()
	old := state{}.with(oldList)
	next := old.with(nextList)
	gone, there := 0, 0
	for n, done := 0, false; !done; n++ {
		_, e := between(t, n)
		done = e == api.OK
		for m, opens := 0, false; !opens; m++ {
			d, _ := between(t, n)
			d.Cut(m)
			_, e := Open(d)
			opens = e == api.OK
			d.Up()
			s := opened(t, d)
			isOld, isNext := old.on(t, s, next), next.on(t, s, next)
			if isOld == isNext || n == 0 && !isOld || done && !isNext {
				t.Errorf("Cut(%d), Cut(%d): as ahead of the Save %v, as behind it %v", n, m, isOld, isNext)
			}
			if isOld {
				gone++
			} else {
				there++
			}
			whole(t, "power", s, api.At{})
			whole(t, "power", s, api.At{X: -1})
		}
	}
	if gone < 5 || there < 5 {
		t.Errorf("%d times as ahead of the Save, %d times as behind it", gone, there)
	}
}

// P22.4: behind a power that went out the store goes on: what is saved then is loaded, and what was left by the Save does not come back over it.
func TestOnBehindPower(t *testing.T) {
	_, nextList := torn()
	for n, done := 0, false; !done; n++ {
		d, e := between(t, n)
		done = e == api.OK
		s := opened(t, d)
		saves(t, "behind it", d, s, api.OK, edit(api.At{X: 0}, filling(30, 14)))
		saves(t, "once more", d, s, api.OK, edit(api.At{X: -3, Z: 0}, dots(50, 14)))
		s = opened(t, d)
		loads(t, "behind it", d, s, api.At{X: 0}, filling(30, 14))
		loads(t, "once more", d, s, api.At{X: -3, Z: 0}, dots(50, 14))
		saves(t, "the same again", d, s, api.OK, nextList...)
		for _, x := range nextList {
			want, _ := chunk.From(x.Cells)
			if x.C == (api.At{X: 1}) {
				want = nil
			}
			loads(t, "the same again", d, s, x.C, want)
		}
	}
}
