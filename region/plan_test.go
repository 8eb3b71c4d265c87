package region

import (
	"bytes"
	"slices"
	"strconv"
	"strings"
	"testing"

	"outcrop/api"
	"outcrop/disk"
	"outcrop/journal"
)

// P11.4: slots that there are not, and slots that stand there twice, at any place of the list.
func TestWrongSlots(t *testing.T) {
	d := disk.New()
	r, was := made(t, d, change(0, 5, 1), change(7, 100, 2))
	before := d.Writes()
	for _, slot := range beyond() {
		for _, data := range [][]byte{nil, {}, text(9, 1), text(5000, 1)} {
			wrong := api.Change{Slot: slot, Data: data}
			fails(t, "alone", r, was, []api.Change{wrong}, api.ErrArg)
			fails(t, "first", r, was, []api.Change{wrong, change(0, 3, 1), change(15, 3, 1)}, api.ErrArg)
			fails(t, "between", r, was, []api.Change{change(0, 3, 1), wrong, change(15, 3, 1)}, api.ErrArg)
			fails(t, "last", r, was, []api.Change{change(0, 3, 1), change(15, 3, 1), wrong}, api.ErrArg)
			fails(t, "twice", r, was, []api.Change{wrong, wrong}, api.ErrArg)
		}
	}
	for slot := range 16 {
		other := (slot + 5) % 16
		for _, n := range []int{0, 1, 40} {
			fails(t, "twice", r, was, []api.Change{change(slot, n, 1), change(slot, n, 1)}, api.ErrArg)
			fails(t, "twice, of other bytes", r, was, []api.Change{change(slot, 0, 1), change(slot, n, 1)}, api.ErrArg)
			fails(t, "twice, with another one between", r, was, []api.Change{change(slot, n, 1), change(other, 8, 1), change(slot, 9, 2)}, api.ErrArg)
		}
	}
	if d.Writes() != before {
		t.Error("Plan has written")
	}
}

// P11.4, R2: ErrArg comes ahead of ErrRegionFull, wherever in the list either is.
func TestArgAheadOfFull(t *testing.T) {
	r, was := made(t, disk.New(), change(3, 600, 1))
	for _, full := range []api.Change{change(4, 1217, 1), change(5, 617, 1), change(3, 100000, 1)} {
		fails(t, "full", r, was, []api.Change{full}, api.ErrRegionFull)
		for _, slot := range beyond() {
			fails(t, "full and wrong", r, was, []api.Change{full, change(slot, 1, 1)}, api.ErrArg)
			fails(t, "wrong and full", r, was, []api.Change{change(slot, 1, 1), full}, api.ErrArg)
		}
		fails(t, "full and twice", r, was, []api.Change{full, full}, api.ErrArg)
		fails(t, "full and twice", r, was, []api.Change{full, {Slot: full.Slot}}, api.ErrArg)
		fails(t, "another one twice", r, was, []api.Change{change(9, 1, 1), full, change(9, 1, 1)}, api.ErrArg)
	}
}

// P11.4: Plan with no changes at all.
func TestNoChanges(t *testing.T) {
	for _, l := range [][]api.Change{nil, {}, make([]api.Change, 0, 4)} {
		d := disk.New()
		next := plan(t, "no changes to a new one", d, opened(t, "new", d, 0, 0), contents{}, l)
		same(t, "no changes", next, opened(t, "new", disk.New(), 0, 0))
		r, was := made(t, d, change(0, 77, 1), change(15, 300, 2))
		plan(t, "no changes", d, r, was, l)
	}
}

// P11.4: slots that are let go, by nil and by no bytes, whether they had something or not; others keep what they have.
func TestLetGo(t *testing.T) {
	for _, none := range [][]byte{nil, {}, text(4, 1)[:0]} {
		for slot := range 16 {
			d := disk.New()
			r, was := made(t, d, change(0, 40, 1), change(5, 100, 2), change(9, 1, 3), change(15, 64, 4))
			next := plan(t, "let go", d, r, was, []api.Change{{Slot: slot, Data: none}})
			was[slot] = ""
			plan(t, "let go again", d, next, was, []api.Change{{Slot: slot, Data: none}, change((slot+1)%16, 7, 5)})
		}
	}
	d := disk.New()
	var all []api.Change
	for slot := range 16 {
		all = append(all, change(slot, 33, slot))
	}
	r, was := made(t, d, all...)
	for slot := range all {
		all[slot].Data = nil
	}
	next := plan(t, "all let go", d, r, was, all)
	if l := next.Free(); !slices.Equal(l, []api.Span{span(2, 38)}) {
		t.Errorf("Free is %v", l)
	}
}

// P11.4: slots of all lengths, in the least and the greatest slot, and what was there is gone.
func TestLengths(t *testing.T) {
	for _, slot := range []int{0, 1, 14, 15} {
		d := disk.New()
		r, was := made(t, d)
		for which, n := range []int{1, 2, 31, 32, 33, 63, 64, 65, 255, 256, 257, 511, 512, 513, 1184, 1185, 1215, 1216, 1, 700, 0, 1216, 0, 5} {
			l := []api.Change{change(slot, n, which)}
			r, was = plan(t, "lengths", d, r, was, l), was.with(l)
		}
	}
}

// full are ways to take all 38 sectors: how many bytes each slot has.
func full() map[string][]int {
	return map[string][]int{
		"one":         {1216},
		"one, barely": {1185},
		"the last":    {0, 0, 0, 0, 0, 0, 0, 0, 0, 0, 0, 0, 0, 0, 0, 1216},
		"two":         {608, 608},
		"unlike":      {1, 1184},
		"some":        {33, 32, 31, 1, 320, 0, 100, 540, 0, 64},
		"all":         {64, 33, 64, 64, 64, 64, 64, 64, 64, 64, 64, 96, 96, 96, 96, 97},
		"all, barely": {1, 1, 1, 1, 1, 1, 1, 1, 1, 1, 1, 1, 1, 1, 1, 32*22 + 1},
	}
}

// P11.4: with all 38 sectors taken Plan goes, at once and one slot behind the other; with one more it does not, whichever slot that is.
func TestAllSectors(t *testing.T) {
	for what, lengths := range full() {
		var l []api.Change
		for slot, n := range lengths {
			l = append(l, change(slot, n, slot))
		}
		d := disk.New()
		r, was := made(t, d, l...)
		if len(r.Free()) != 0 || was.sectors() != 40 {
			t.Fatalf("%s: %d sectors, and free are %v", what, was.sectors(), r.Free())
		}
		for slot, s := range was {
			more := (len(s)+31)/32*32 + 1
			fails(t, what+", one more", r, was, []api.Change{change(slot, more, 1)}, api.ErrRegionFull)
			plan(t, what+", filled up", d, r, was, []api.Change{change(slot, more-1, 1)})
			again := append(slices.Clone(l), change(slot, more, 1))
			if slot < len(l) {
				again = slices.Clone(l)
				again[slot] = change(slot, more, 1)
			}
			fails(t, what+", one more at once", opened(t, what, disk.New(), 0, 0), contents{}, again, api.ErrRegionFull)
		}
		single, c := opened(t, what, disk.New(), 0, 0), contents{}
		for k := range l {
			x := l[len(l)-1-k : len(l)-k]
			single, c = plan(t, what+", one behind the other", disk.New(), single, c, x), c.with(x)
		}
		plan(t, what+", the same again", d, single, c, l)
	}
}

// P11.4: of a slot that is changed only what it has then counts, so that all may be exchanged in one Plan.
func TestExchange(t *testing.T) {
	d := disk.New()
	r, was := made(t, d, change(0, 1216, 1))
	r, was = plan(t, "others", d, r, was, []api.Change{change(0, 1216, 2)}), contents{0: string(text(1216, 2))}
	l := []api.Change{change(1, 1216, 3), {Slot: 0}}
	r, was = plan(t, "let go behind", d, r, was, l), was.with(l)
	l = []api.Change{{Slot: 1}, change(2, 608, 3), change(15, 608, 4)}
	r, was = plan(t, "let go ahead", d, r, was, l), was.with(l)
	l = []api.Change{change(15, 1184, 5), change(2, 32, 6)}
	r, was = plan(t, "the one grows", d, r, was, l), was.with(l)
	fails(t, "not let go", r, was, []api.Change{change(3, 1, 1)}, api.ErrRegionFull)
	fails(t, "too little let go", r, was, []api.Change{change(3, 33, 1), {Slot: 2}}, api.ErrRegionFull)
	plan(t, "just enough let go", d, r, was, []api.Change{change(3, 32, 1), {Slot: 2}})
}

// P11.4: bytes that are far more than a region has, also such whose number has the lowest bits of one that fits.
func TestFarTooMany(t *testing.T) {
	r, was := made(t, disk.New(), change(0, 9, 1))
	for _, n := range []int{1217, 1248, 1280, 8192, 32788, 65535, 65536, 65546, 1<<20 + 5, 1 << 24} {
		fails(t, "far too many", r, was, []api.Change{{Slot: 5, Data: make([]byte, n)}}, api.ErrRegionFull)
	}
	var l []api.Change
	for slot := range 16 {
		l = append(l, change(slot, 65536, 1))
	}
	fails(t, "far too many everywhere", r, was, l, api.ErrRegionFull)
}

// P11.5: free sectors that lie apart, by hand, one between any two that are taken; whatever fits in number fits.
func TestLaidAnew(t *testing.T) {
	head, was := entries{}, contents{}
	for slot := range 13 {
		from := 2 + slot*3
		n := 33 + slot
		if slot == 12 {
			n = 20
		}
		head[slot], was[slot] = [3]int{from, (n + 31) / 32, n}, laid(from, n)
	}
	d := lay(t, head)
	r := opened(t, "apart", d, 0, 0)
	tells(t, "apart", r, was)
	free := 40 - was.sectors()
	if free != 13 || len(r.Free()) != 13 {
		t.Fatalf("%d free sectors: %v", free, r.Free())
	}
	for many := 1; many <= free; many++ {
		for _, slot := range []int{13, 15} {
			plan(t, "a new one", lay(t, head), r, was, []api.Change{change(slot, many*32, 1)})
			plan(t, "two new ones", lay(t, head), r, was, []api.Change{change(slot, many*32, 1), change(14, (free-many)*32, 2)})
		}
		plan(t, "one that grows", lay(t, head), r, was, []api.Change{change(6, many*32+64, 1)})
	}
	fails(t, "one more", r, was, []api.Change{change(13, free*32+1, 1)}, api.ErrRegionFull)
	fails(t, "one more", r, was, []api.Change{change(13, free*32-31, 1), change(14, 1, 1)}, api.ErrRegionFull)
}

// P11.5: each other slot is let go, and all that is free then goes to one.
func TestEachOtherLetGo(t *testing.T) {
	for odd := range 2 {
		d := disk.New()
		var l, gone []api.Change
		for slot := range 16 {
			l = append(l, change(slot, 64-slot, slot))
			if slot%2 == odd {
				gone = append(gone, api.Change{Slot: slot})
			}
		}
		r, was := made(t, d, l...)
		r, was = plan(t, "let go", d, r, was, gone), was.with(gone)
		free := 40 - was.sectors()
		fails(t, "one more", r, was, []api.Change{change(odd, free*32+1, 77)}, api.ErrRegionFull)
		r = plan(t, "all to one", d, r, was, []api.Change{change(odd, free*32, 77)})
		if len(r.Free()) != 0 {
			t.Errorf("Free is %v", r.Free())
		}
	}
}

// P11.4: many plans of one region, all on the same disk: each is told when it is written, whatever was written of the others.
func TestPlansOfOneRegion(t *testing.T) {
	d := disk.New()
	r, was := made(t, d, change(0, 200, 1), change(1, 32, 2), change(2, 500, 3), change(15, 90, 4))
	for _, l := range [][]api.Change{
		{{Slot: 0}}, {change(3, 200, 5)}, {change(0, 300, 6)}, {{Slot: 2}, change(3, 700, 7)}, nil, {{Slot: 0}, {Slot: 1}, {Slot: 2}, {Slot: 15}},
		{change(0, 1216, 8), {Slot: 1}, {Slot: 2}, {Slot: 15}}, {change(2, 500, 9)}, {{Slot: 15}, change(0, 1, 9), change(7, 33, 9)}, {change(14, 2, 2)},
	} {
		plan(t, "plans of one region", d, r, was, l)
	}
}

// P11.4: plans one behind the other of which the last alone is written.
func TestTheLastPlanAlone(t *testing.T) {
	d := disk.New()
	r, was := made(t, d, change(0, 200, 1), change(1, 32, 2), change(2, 500, 3))
	for _, l := range [][]api.Change{{{Slot: 0}}, {change(4, 300, 4)}, {change(5, 100, 5), {Slot: 1}}, {{Slot: 4}}, {change(6, 500, 6)}, {change(0, 9, 1)}} {
		puts, next, e := r.Plan(l)
		if e != api.OK {
			t.Fatalf("Plan: error %d", e)
		}
		r, was = next, was.with(l)
		tells(t, "planned", r, was)
		c := lay(t, entries{0: {3, 2, 50}, 8: {20, 1, 4}})
		writeAll(t, c, puts)
		same(t, "the last plan alone", opened(t, "the last plan alone", c, 0, 0), r)
	}
	plan(t, "the last plan alone", d, r, was, nil)
}

// R3: what is handed in stays, and may be changed behind the call; so may what Get, Live, Free and Plan have answered.
func TestBytesAreApart(t *testing.T) {
	d := disk.New()
	r, was := made(t, d, change(0, 70, 1), change(1, 32, 2))
	memory := text(200, 3)
	l := []api.Change{{Slot: 2, Data: memory[:40]}, {Slot: 3, Data: memory[20:90]}, {Slot: 4, Data: memory[:40]}, {Slot: 1}}
	want := was.with(l)
	puts, next, e := r.Plan(l)
	if e != api.OK {
		t.Fatalf("Plan: error %d", e)
	}
	if !bytes.Equal(memory, text(200, 3)) || len(l) != 4 || l[0].Slot != 2 || len(l[0].Data) != 40 || l[3].Slot != 1 || l[3].Data != nil {
		t.Error("Plan has changed what it was handed")
	}
	scramble(memory)
	l[0], l[3] = change(9, 9, 9), change(8, 8, 8)
	tells(t, "handed in and changed", next, want)
	tells(t, "handed in and changed, the region that was asked", r, was)
	for i := range 16 {
		scramble(next.Get(i))
		scramble(r.Get(i))
		_ = append(next.Get(i), 1, 2, 3)
	}
	for _, spans := range [][]api.Span{next.Live(), next.Free(), r.Live(), r.Free()} {
		for i := range spans {
			spans[i] = span(99, 99)
		}
	}
	tells(t, "answered and changed", next, want)
	tells(t, "answered and changed, the region that was asked", r, was)
	writeAll(t, d, puts)
	same(t, "answered and changed", opened(t, "opened", d, 0, 0), next)
	for i := range puts {
		scramble(puts[i].B[:cap(puts[i].B)])
	}
	tells(t, "blocks that were changed", next, want)
	tells(t, "blocks that were changed, the region that was asked", r, was)
	stands(t, "blocks that were changed", d, 0, 0, want)
}

// scramble changes all bytes.
func scramble(b []byte) {
	for i := range b {
		b[i] ^= byte(0x55 + i%8)
	}
}

// R3: no two blocks of a plan share memory.
func TestBlocksAreApart(t *testing.T) {
	r, _ := made(t, disk.New(), change(0, 70, 1), change(1, 320, 2))
	puts, _, _ := r.Plan([]api.Change{change(9, 100, 3)})
	for i := range puts {
		var others [][]byte
		for _, p := range puts {
			others = append(others, bytes.Clone(p.B))
		}
		_ = append(puts[i].B, bytes.Repeat([]byte{9}, 64)...)
		scramble(puts[i].B)
		for k, p := range puts {
			if k != i && !bytes.Equal(p.B, others[k]) {
				t.Errorf("a change to block %d shows in block %d", puts[i].I, p.I)
			}
		}
	}
}

// R5: questions and plans change nothing, and are answered alike, however often.
func TestQuestionsChangeNothing(t *testing.T) {
	d := disk.New()
	r, was := made(t, d, change(0, 70, 1), change(9, 320, 2))
	l := []api.Change{change(3, 400, 3), {Slot: 0}, change(9, 1, 4)}
	first, one, _ := r.Plan(l)
	before := d.Writes()
	for range 5 {
		puts, next, e := r.Plan(l)
		if e != api.OK || len(puts) != len(first) {
			t.Fatalf("Plan: %d blocks, error %d", len(puts), e)
		}
		for i, p := range puts {
			if p.F != first[i].F || p.I != first[i].I || !bytes.Equal(p.B, first[i].B) {
				t.Errorf("Plan: block %d is another one", i)
			}
		}
		same(t, "asked again", next, one)
		tells(t, "asked again", r, was)
		fails(t, "asked again", r, was, []api.Change{change(3, 9999, 3)}, api.ErrRegionFull)
	}
	if d.Writes() != before {
		t.Error("questions have written")
	}
}

// R1: none of the calls panics where there is no Region, which has no slots; the zero one is that of 0, 0.
func TestNoRegion(t *testing.T) {
	var none *Region
	for _, i := range append(beyond(), 0, 15) {
		if len(none.Get(i)) != 0 {
			t.Errorf("Get(%d) of no region", i)
		}
	}
	if len(none.Live()) != 0 || len(none.Free()) != 0 {
		t.Error("no region has sectors")
	}
	for _, l := range [][]api.Change{nil, {change(0, 1, 1)}, {change(0, 1217, 1)}, {change(-1, 1, 1)}} {
		if puts, r, e := none.Plan(l); e != api.ErrArg || r != nil || len(puts) != 0 {
			t.Errorf("Plan of no region: error %d", e)
		}
	}
	tells(t, "the zero region", &Region{}, contents{})
	plan(t, "the zero region", disk.New(), &Region{}, contents{}, []api.Change{change(0, 1216, 1)})
}

// What a plan tells is taken by the journal, also of several regions at once, and is there behind it.
func TestByTheJournal(t *testing.T) {
	d := disk.New()
	j, e := journal.Open(d)
	if e != api.OK {
		t.Fatalf("journal: error %d", e)
	}
	var all []api.Put
	var planned []*Region
	for x := range 4 {
		puts, next, e := opened(t, "new", d, x, -x).Plan([]api.Change{change(x, 1216, x)})
		if e != api.OK {
			t.Fatalf("Plan: error %d", e)
		}
		all, planned = append(all, puts...), append(planned, next)
	}
	if e := j.Group(all); e != api.OK {
		t.Fatalf("Group of %d: error %d", len(all), e)
	}
	for x, next := range planned {
		same(t, "by the journal", opened(t, "by the journal", d, x, -x), next)
	}
}

// numbers are the same ones each time, below what is asked for.
func numbers(state uint32) func(int) int {
	return func(n int) int {
		state = state*1664525 + 1013904223
		return int(state>>8) % n
	}
}

// P11.4, P11.5: many plans one behind the other, of any slots and lengths: each goes just when its sectors are enough in number, whatever was planned and let go before.
func TestManyPlans(t *testing.T) {
	for seed := range uint32(6) {
		below := numbers(seed)
		d := disk.New()
		r, was := made(t, d)
		went, anew := 0, 0
		for step := range 700 {
			var l []api.Change
			first := below(16)
			for k := range below(5) {
				n := below(1 + below(40)*below(40))
				if below(3) == 0 {
					n = 0
				}
				l = append(l, change((first+k*5)%16, n, step))
			}
			what := "seed " + strconv.Itoa(int(seed)) + ", step " + strconv.Itoa(step)
			if was.with(l).sectors() > 40 {
				fails(t, what, r, was, l, api.ErrRegionFull)
				continue
			}
			next := plan(t, what, d, r, was, l)
			went++
			if moved(r, next, l) {
				anew++
			}
			r, was = next, was.with(l)
			if t.Failed() {
				t.Fatalf("at %s", what)
			}
		}
		if went < 100 || anew == 0 {
			t.Errorf("seed %d: %d plans went, and %d of these laid anew", seed, went, anew)
		}
	}
}

// moved tells whether a slot that was not changed lies elsewhere.
func moved(r, next *Region, l []api.Change) bool {
	for i, x := range next.Live() {
		changed := slices.ContainsFunc(l, func(c api.Change) bool { return c.Slot == i })
		if !changed && x != r.Live()[i] {
			return true
		}
	}
	return false
}

// P11.5: all sectors are filled by slots of one sector and more, let go in any order, and filled again to the last one.
func TestFilledAgain(t *testing.T) {
	below := numbers(99)
	d := disk.New()
	r, was := made(t, d)
	for round := range 150 {
		for len(r.Free()) > 0 {
			free := 40 - was.sectors()
			slot := below(16)
			many := (len(was[slot])+31)/32 + 1 + below(free)
			l := []api.Change{change(slot, many*32-below(32), round)}
			r, was = plan(t, "filled", d, r, was, l), was.with(l)
		}
		for range 1 + below(12) {
			l := []api.Change{{Slot: below(16)}}
			r, was = plan(t, "let go", d, r, was, l), was.with(l)
		}
		most := (40 - was.sectors()) * 32
		slot := strings.Index(mask(was), "-")
		plan(t, "all that is free", d, r, was, []api.Change{change(slot, most, round)})
		fails(t, "one byte more", r, was, []api.Change{change(slot, most+1, round)}, api.ErrRegionFull)
	}
}

// mask has a letter for each slot: - if it has nothing.
func mask(c contents) string {
	b := make([]byte, len(c))
	for i, s := range c {
		b[i] = "-+"[min(len(s), 1)]
	}
	return string(b)
}
