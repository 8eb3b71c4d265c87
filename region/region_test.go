package region

import (
	"bytes"
	"math"
	"slices"
	"testing"

	"outcrop/api"
	"outcrop/disk"
)

// contents is what the slots of a region are to have.
type contents [16]string

// with is what they are to have behind some changes.
func (c contents) with(l []api.Change) contents {
	for _, x := range l {
		c[x.Slot] = string(x.Data)
	}
	return c
}

// sectors is how many sectors they take, the header's with them.
func (c contents) sectors() int {
	n := 2
	for _, s := range c {
		n += (len(s) + 31) / 32
	}
	return n
}

// text is so many bytes, other ones for each number; none of them is a nought.
func text(n, which int) []byte {
	b := make([]byte, n)
	for i := range b {
		b[i] = byte((i*7+which*31+i/32*13)%255 + 1)
	}
	return b
}

// change is a slot that is to have so many bytes.
func change(slot, n, which int) api.Change { return api.Change{Slot: slot, Data: text(n, which)} }

// span is a span.
func span(from, many int) api.Span { return api.Span{From: from, Many: many} }

// fileOf is a region's file.
func fileOf(x, z int) api.File { return api.File{Kind: 2, X: x, Z: z} }

// entries are what a header has of some slots: FROM, MANY, LENGTH.
type entries map[int][3]int

// lay writes a header to the region 0, 0 of a new disk, and to all its other sectors bytes that tell their number.
func lay(t *testing.T, head entries) *disk.Disk {
	t.Helper()
	d := disk.New()
	b := make([]byte, 64)
	for slot, x := range head {
		copy(b[slot*4:], []byte{byte(x[0]), byte(x[1]), byte(x[2] & 255), byte(x[2] >> 8)})
	}
	write(t, d, fileOf(0, 0), 0, b[:32])
	write(t, d, fileOf(0, 0), 1, b[32:])
	for i := 2; i < 40; i++ {
		write(t, d, fileOf(0, 0), i, text(32, i))
	}
	return d
}

// laid is what a slot with these sectors and so many bytes has of what lay has written.
func laid(from, length int) string {
	var b []byte
	for i := range (length + 31) / 32 {
		b = append(b, text(32, from+i)...)
	}
	return string(b[:length])
}

// write writes a block.
func write(t *testing.T, d *disk.Disk, f api.File, i int, b []byte) {
	t.Helper()
	if e := d.Write(f, i, b); e != api.OK {
		t.Fatalf("Write(%v, %d): error %d", f, i, e)
	}
}

// writeAll writes a plan's blocks.
func writeAll(t *testing.T, d *disk.Disk, puts []api.Put) {
	t.Helper()
	for _, p := range puts {
		write(t, d, p.F, p.I, p.B)
	}
}

// opened is a disk's region.
func opened(t *testing.T, what string, d *disk.Disk, x, z int) *Region {
	t.Helper()
	r, e := Open(d, x, z)
	if e != api.OK || r == nil {
		t.Fatalf("%s: Open(%d, %d): %v, error %d", what, x, z, r, e)
	}
	return r
}

// refused checks that Open of the region 0, 0 answers that error, and no region.
func refused(t *testing.T, what string, d *disk.Disk, want api.Errno) {
	t.Helper()
	if r, e := Open(d, 0, 0); r != nil || e != want {
		t.Errorf("%s: Open: %v, error %d, not %d", what, r, e, want)
	}
}

// has checks what Get answers.
func has(t *testing.T, what string, r *Region, want contents) {
	t.Helper()
	for i, s := range want {
		if b := r.Get(i); string(b) != s {
			t.Errorf("%s: slot %d has %d bytes, %q, not %d, %q", what, i, len(b), b, len(s), s)
		}
	}
}

// tells checks all that a region tells: its slots' bytes, and that header, slots' sectors and free ones are all 40, each once, the free ones in the fewest spans, rising.
func tells(t *testing.T, what string, r *Region, want contents) {
	t.Helper()
	has(t, what, r, want)
	var owners [40]int
	count := func(x api.Span) {
		if x.From < 2 || x.Many < 1 || x.From+x.Many > 40 {
			t.Fatalf("%s: span %v", what, x)
		}
		for i := range x.Many {
			owners[x.From+i]++
		}
	}
	live := r.Live()
	if len(live) != 16 {
		t.Fatalf("%s: Live has %d spans", what, len(live))
	}
	for i, x := range live {
		if len(want[i]) > 0 {
			count(x)
		}
		if x.Many != (len(want[i])+31)/32 || len(want[i]) == 0 && x != (api.Span{}) {
			t.Errorf("%s: slot %d has %d bytes in %v", what, i, len(want[i]), x)
		}
	}
	end := 0
	for _, x := range r.Free() {
		count(x)
		if x.From <= end {
			t.Errorf("%s: Free is %v", what, r.Free())
		}
		end = x.From + x.Many
	}
	for i, n := range owners {
		if i >= 2 && n != 1 {
			t.Errorf("%s: sector %d is told %d times: %v, %v", what, i, n, live, r.Free())
		}
	}
}

// same checks that two regions tell the same.
func same(t *testing.T, what string, a, b *Region) {
	t.Helper()
	for i := range 16 {
		if !bytes.Equal(a.Get(i), b.Get(i)) {
			t.Errorf("%s: slot %d: %q and %q", what, i, a.Get(i), b.Get(i))
		}
	}
	if !slices.Equal(a.Live(), b.Live()) {
		t.Errorf("%s: Live is %v and %v", what, a.Live(), b.Live())
	}
	if !slices.Equal(a.Free(), b.Free()) {
		t.Errorf("%s: Free is %v and %v", what, a.Free(), b.Free())
	}
}

// stands checks the blocks of a file by P11.1: the header's bytes for each slot, and the slot's bytes in its sectors.
func stands(t *testing.T, what string, d *disk.Disk, x, z int, want contents) {
	t.Helper()
	var all []byte
	for i := range 40 {
		b, e := d.Read(fileOf(x, z), i)
		if e != api.OK {
			t.Fatalf("%s: Read(%d): error %d", what, i, e)
		}
		all = append(all, b...)
	}
	var owned [40]bool
	for slot, s := range want {
		h := all[slot*4 : slot*4+4]
		if s == "" {
			if !bytes.Equal(h, make([]byte, 4)) {
				t.Errorf("%s: slot %d has nothing, and %v in the header", what, slot, h)
			}
			continue
		}
		from, many, length := int(h[0]), int(h[1]), int(h[2])+256*int(h[3])
		if length != len(s) || many != (length+31)/32 || from < 2 || from+many > 40 {
			t.Fatalf("%s: slot %d has %d bytes, and %v in the header", what, slot, len(s), h)
		}
		for i := from; i < from+many; i++ {
			if owned[i] {
				t.Errorf("%s: sector %d is of two slots", what, i)
			}
			owned[i] = true
		}
		if got := string(all[from*32 : from*32+length]); got != s {
			t.Errorf("%s: slot %d has %q in its sectors, not %q", what, slot, got, s)
		}
	}
}

// ofItsFile checks a plan's blocks: of the region's file alone, none of them twice, each whole, and such as the journal takes.
func ofItsFile(t *testing.T, what string, puts []api.Put, x, z int) {
	t.Helper()
	var seen [40]bool
	for _, p := range puts {
		if p.F != fileOf(x, z) || p.I < 0 || p.I >= 40 || len(p.B) != 32 {
			t.Fatalf("%s: a block %v, %d of %d bytes", what, p.F, p.I, len(p.B))
		}
		if seen[p.I] {
			t.Errorf("%s: block %d stands there twice", what, p.I)
		}
		seen[p.I] = true
	}
}

// plan plans changes for a region that has that much, writes them to a disk, and checks all that a Plan that is OK promises.
func plan(t *testing.T, what string, d *disk.Disk, r *Region, was contents, l []api.Change) *Region {
	t.Helper()
	puts, next, e := r.Plan(l)
	if e != api.OK || next == nil {
		t.Fatalf("%s: Plan: error %d; %v, %v", what, e, r.Live(), r.Free())
	}
	want := was.with(l)
	tells(t, what+", the region that was asked", r, was)
	tells(t, what+", the planned one", next, want)
	ofItsFile(t, what, puts, r.x, r.z)
	writeAll(t, d, puts)
	stands(t, what, d, r.x, r.z, want)
	same(t, what+", opened", opened(t, what, d, r.x, r.z), next)
	tells(t, what+", the region that was asked, behind the writes", r, was)
	return next
}

// fails checks that Plan answers that error, nothing else, and changes nothing.
func fails(t *testing.T, what string, r *Region, was contents, l []api.Change, want api.Errno) {
	t.Helper()
	if puts, next, e := r.Plan(l); e != want || next != nil || len(puts) != 0 {
		t.Errorf("%s: Plan: %d blocks, %v, error %d, not %d", what, len(puts), next, e, want)
	}
	tells(t, what, r, was)
}

// made is a region of a disk with some slots.
func made(t *testing.T, d *disk.Disk, l ...api.Change) (*Region, contents) {
	t.Helper()
	r := plan(t, "made", d, opened(t, "made", d, 0, 0), contents{}, l)
	return r, contents{}.with(l)
}

// beyond are numbers that no slot has; the lowest bits of some are those of one that there is.
func beyond() []int {
	return []int{-1, -2, -15, -16, -17, 16, 17, 31, 32, 255, 256, 1<<32 | 3, 1<<8 | 3, 1<<62 | 3, -1 << 32, math.MinInt, math.MinInt + 3, math.MaxInt}
}

// The chapter's examples.
func TestExamples(t *testing.T) {
	for n, want := range map[int]int{0: 0, 1: 1, 32: 1, 33: 2} {
		if Need(n) != want {
			t.Errorf("Need(%d) is %d", n, Need(n))
		}
	}
	d := disk.New()
	puts, _, e := opened(t, "new", d, 0, 0).Plan([]api.Change{change(3, 40, 1)})
	if e != api.OK {
		t.Fatalf("Plan: error %d", e)
	}
	writeAll(t, d, puts)
	if b := opened(t, "written", d, 0, 0).Get(3); !bytes.Equal(b, text(40, 1)) {
		t.Errorf("slot 3 has %q", b)
	}
	r := opened(t, "new", disk.New(), 0, 0)
	fails(t, "1217 bytes", r, contents{}, []api.Change{change(0, 1217, 1)}, api.ErrRegionFull)
	plan(t, "1216 bytes", disk.New(), r, contents{}, []api.Change{change(0, 1216, 1)})
}

// P11.2: Need at its edges.
func TestNeed(t *testing.T) {
	for _, x := range [][2]int{
		{-1, 0}, {0, 0}, {1, 1}, {2, 1}, {31, 1}, {32, 1}, {33, 2}, {63, 2}, {64, 2}, {65, 3}, {1184, 37}, {1185, 38}, {1216, 38}, {1217, 39}, {1248, 39}, {1249, 40},
		{32788, 1025}, {1 << 32, 1 << 27}, {1<<32 + 1, 1<<27 + 1}, {math.MaxInt, 1 << 58}, {math.MaxInt - 30, 1 << 58}, {math.MaxInt - 31, 1<<58 - 1},
		{-31, 0}, {-32, 0}, {-33, 0}, {-1 << 32, 0}, {math.MinInt, 0}, {math.MinInt + 1, 0}, {math.MinInt + 31, 0}, {math.MinInt + 32, 0},
	} {
		if n := Need(x[0]); n != x[1] {
			t.Errorf("Need(%d) is %d, not %d", x[0], n, x[1])
		}
	}
	for n := 1; n < 5000; n++ {
		if many := Need(n); many*32 < n || (many-1)*32 >= n {
			t.Errorf("Need(%d) is %d", n, many)
		}
	}
}

// P11.1, P11.2, P11.3: a header of noughts is one of slots that have nothing, whether it was written or not.
func TestNoughts(t *testing.T) {
	for what, d := range map[string]*disk.Disk{"never written": disk.New(), "written": lay(t, nil)} {
		r := opened(t, what, d, 0, 0)
		tells(t, what, r, contents{})
		if l := r.Free(); !slices.Equal(l, []api.Span{span(2, 38)}) {
			t.Errorf("%s: Free is %v", what, l)
		}
	}
}

// P11.1, P11.3: a header by hand: FROM, MANY, LENGTH with the lower byte first; bytes behind the LENGTH are nobody's.
func TestHeaderByHand(t *testing.T) {
	head := entries{0: {39, 1, 1}, 1: {2, 1, 32}, 2: {4, 2, 33}, 7: {20, 9, 257}, 8: {6, 3, 96}, 9: {30, 2, 40}, 15: {10, 10, 300}}
	r := opened(t, "by hand", lay(t, head), 0, 0)
	want, live := contents{}, make([]api.Span, 16)
	for slot, x := range head {
		want[slot], live[slot] = laid(x[0], x[2]), span(x[0], x[1])
	}
	tells(t, "by hand", r, want)
	if !slices.Equal(r.Live(), live) {
		t.Errorf("Live is %v", r.Live())
	}
	if l := r.Free(); !slices.Equal(l, []api.Span{span(3, 1), span(9, 1), span(29, 1), span(32, 7)}) {
		t.Errorf("Free is %v", l)
	}
}

// P11.1: the same entry in each slot, one at a time, and all slots at once.
func TestEachSlotByHand(t *testing.T) {
	all, want := entries{}, contents{}
	for slot := range 16 {
		one := contents{}
		one[slot] = laid(5, 70)
		tells(t, "one slot", opened(t, "one slot", lay(t, entries{slot: {5, 3, 70}}), 0, 0), one)
		refused(t, "one slot with a MANY too few", lay(t, entries{slot: {5, 2, 70}}), api.ErrForm)
		from := 38 - 2*slot
		all[slot], want[slot] = [3]int{from, 2, 33 + slot}, laid(from, 33+slot)
	}
	tells(t, "all slots", opened(t, "all slots", lay(t, all), 0, 0), want)
}

// P11.1, P11.2: the edges of one slot by name.
func TestWrongEntries(t *testing.T) {
	for what, x := range map[string][3]int{
		"LENGTH 0, FROM 2": {2, 0, 0}, "LENGTH 0, FROM 1": {1, 0, 0}, "LENGTH 0, FROM 255": {255, 0, 0}, "LENGTH 0, FROM 40": {40, 0, 0},
		"LENGTH 0, MANY 1": {0, 1, 0}, "LENGTH 0, MANY 255": {0, 255, 0}, "LENGTH 0, FROM 2, MANY 1": {2, 1, 0}, "LENGTH 0, FROM 39, MANY 1": {39, 1, 0},
		"LENGTH alone": {0, 0, 1}, "LENGTH 256 alone": {0, 0, 256}, "no MANY": {2, 0, 1}, "no FROM": {0, 1, 1},
		"MANY one less": {2, 1, 33}, "MANY one more": {2, 3, 33}, "MANY one more of 32": {2, 2, 32}, "MANY one less of 65": {2, 2, 65}, "MANY one more of 1": {2, 2, 1},
		"FROM 0": {0, 1, 5}, "FROM 1": {1, 1, 5}, "FROM 1, of two": {1, 2, 64}, "FROM 40": {40, 1, 5}, "FROM 41": {41, 1, 5}, "FROM 255": {255, 1, 5}, "FROM 128": {128, 1, 5},
		"one behind the end": {39, 2, 64}, "38 from 3 on": {3, 38, 1216}, "39 from 2 on": {2, 39, 1217}, "40 from 0 on": {0, 40, 1280}, "38 from 1 on": {1, 38, 1216},
		"the greatest": {255, 255, 65535}, "the greatest LENGTH": {2, 38, 65535}, "2048 sectors in a byte": {2, 0, 65536 - 1}, "256 sectors": {2, 0, 8192}, "257 sectors": {2, 1, 8193},
	} {
		refused(t, what, lay(t, entries{0: x}), api.ErrForm)
		refused(t, what, lay(t, entries{15: x}), api.ErrForm)
		refused(t, what+", beside others", lay(t, entries{3: {20, 1, 9}, 7: x, 9: {22, 2, 64}}), api.ErrForm)
	}
	for what, x := range map[string][3]int{
		"FROM 2": {2, 1, 1}, "FROM 39": {39, 1, 32}, "up to 40": {38, 2, 33}, "all": {2, 38, 1216}, "all, in part": {2, 38, 1185}, "37": {3, 37, 1184},
	} {
		want := contents{}
		want[6] = laid(x[0], x[2])
		tells(t, what, opened(t, what, lay(t, entries{6: x}), 0, 0), want)
	}
}

// P11.1, P11.2: every FROM, with numbers of sectors and of bytes about the edges.
func TestEachFrom(t *testing.T) {
	d := disk.New()
	for from := range 256 {
		for _, many := range []int{0, 1, 2, 3, 37, 38, 39, 40, 255} {
			for _, length := range []int{0, 1, 31, 32, 33, 64, 65, 96, 1184, 1185, 1216, 1217, 1248, 1280, 8192, 65535} {
				b := make([]byte, 32)
				copy(b[12:], []byte{byte(from), byte(many), byte(length & 255), byte(length >> 8)})
				write(t, d, fileOf(0, 0), 0, b)
				want := api.ErrForm
				nothing := from == 0 && many == 0 && length == 0
				if nothing || length > 0 && many == (length+31)/32 && from >= 2 && from+many <= 40 {
					want = api.OK
				}
				r, e := Open(d, 0, 0)
				if e != want || (r != nil) != (want == api.OK) {
					t.Errorf("FROM %d, MANY %d, LENGTH %d: %v, error %d, not %d", from, many, length, r, e, want)
				}
				if e == api.OK && (r.Live()[3] != span(from, many) || len(r.Get(3)) != length) {
					t.Errorf("FROM %d, MANY %d, LENGTH %d: %v, %d bytes", from, many, length, r.Live()[3], len(r.Get(3)))
				}
			}
		}
	}
}

// P11.1, P11.2: two slots that share sectors, however these lie.
func TestSharedSectors(t *testing.T) {
	for what, head := range map[string]entries{
		"the same": {0: {5, 1, 1}, 1: {5, 1, 1}}, "the last is the first": {0: {5, 2, 64}, 1: {6, 2, 64}}, "the first is the last": {15: {5, 2, 64}, 0: {4, 2, 64}},
		"within": {4: {5, 5, 160}, 9: {7, 1, 3}}, "about": {4: {7, 1, 3}, 9: {5, 5, 160}}, "the last sector": {2: {39, 1, 1}, 3: {38, 2, 40}}, "all": {0: {2, 38, 1216}, 1: {39, 1, 1}},
		"three": {0: {2, 3, 96}, 5: {5, 3, 96}, 10: {4, 1, 32}},
	} {
		refused(t, what, lay(t, head), api.ErrForm)
	}
	d := lay(t, nil)
	for a := 2; a < 40; a++ {
		for b := 2; b < 40; b++ {
			for k := range 9 {
				m, n := 1+k%3, 1+k/3
				if a+m > 40 || b+n > 40 {
					continue
				}
				head := make([]byte, 32)
				copy(head[4:], []byte{byte(a), byte(m), byte(m*32 - 3), 0, 0, 0, 0, 0, byte(b), byte(n), byte(n*32 - 5), 0})
				write(t, d, fileOf(0, 0), 0, head)
				apart := a+m <= b || b+n <= a
				r, e := Open(d, 0, 0)
				if apart && e != api.OK || !apart && (e != api.ErrForm || r != nil) {
					t.Errorf("%d from %d on, %d from %d on: error %d", m, a, n, b, e)
				}
				if apart && e == api.OK {
					tells(t, "apart", r, contents{1: laid(a, m*32-3), 3: laid(b, n*32-5)})
				}
			}
		}
	}
}

// P11.2, R2: Open with the power out, whatever the header is; it writes nothing, and spends nothing of a Cut.
func TestNoPower(t *testing.T) {
	good, none, fresh := lay(t, entries{4: {9, 2, 50}}), lay(t, entries{4: {1, 2, 50}}), disk.New()
	for _, d := range []*disk.Disk{good, none, fresh} {
		d.Cut(0)
		refused(t, "no power", d, api.ErrDown)
		d.Up()
		d.Cut(1)
		before := d.Writes()
		Open(d, 0, 0)
		if !d.On() || d.Writes() != before {
			t.Error("Open has written")
		}
		d.Up()
	}
	tells(t, "behind Up", opened(t, "behind Up", good, 0, 0), contents{4: laid(9, 50)})
	refused(t, "behind Up", none, api.ErrForm)
	refused(t, "no disk", nil, api.ErrDown)
	if l := fresh.Files(); len(l) != 0 {
		t.Errorf("Open has made files: %v", l)
	}
}

// P11.2, R3: what was opened stays as it was, whatever is written to the disk behind it, and whether there is power.
func TestOpenedStays(t *testing.T) {
	d := lay(t, entries{4: {9, 2, 50}, 5: {11, 1, 7}})
	r, want := opened(t, "ahead", d, 0, 0), contents{4: laid(9, 50), 5: laid(11, 7)}
	for i := range 40 {
		write(t, d, fileOf(0, 0), i, text(32, 200))
	}
	tells(t, "written over", r, want)
	refused(t, "written over", d, api.ErrForm)
	d.Cut(0)
	tells(t, "no power", r, want)
	puts, next, e := r.Plan([]api.Change{change(0, 9, 1)})
	if e != api.OK {
		t.Fatalf("Plan without power: error %d", e)
	}
	d.Up()
	writeAll(t, d, puts)
	same(t, "planned without power", opened(t, "planned", d, 0, 0), next)
}

// P11.2, P11.4: each region has its own file, of any x and z; other files count for nothing.
func TestOtherFiles(t *testing.T) {
	d, want := disk.New(), map[[2]int]contents{}
	ends := []int{math.MinInt, -1 << 32, -2, -1, 0, 1, 2, 1 << 32, math.MaxInt}
	for _, kind := range []int{-1, 0, 1, 3} {
		for _, x := range ends {
			for i := range 40 {
				write(t, d, api.File{Kind: kind, X: x, Z: x}, i, text(32, 9))
			}
		}
	}
	others := len(d.Files())
	for i, x := range ends {
		for k, z := range ends {
			l := []api.Change{change(i, 10+k, i), change(i+1+k%2, 40, k)}
			plan(t, "ends", d, opened(t, "ends", d, x, z), contents{}, l)
			want[[2]int{x, z}] = contents{}.with(l)
		}
	}
	for at, c := range want {
		tells(t, "ends", opened(t, "ends", d, at[0], at[1]), c)
	}
	if n := len(d.Files()) - others; n != len(want) {
		t.Errorf("%d regions have %d files", len(want), n)
	}
}

// P11.3: Get of the least and the greatest slot, and of what is no slot.
func TestGet(t *testing.T) {
	r, want := made(t, disk.New(), change(0, 5, 1), change(3, 100, 2), change(15, 64, 3))
	has(t, "slots", r, want)
	for _, i := range beyond() {
		if b := r.Get(i); len(b) != 0 {
			t.Errorf("Get(%d): %q", i, b)
		}
	}
	for _, i := range []int{1, 2, 4, 14} {
		if b := r.Get(i); len(b) != 0 {
			t.Errorf("Get(%d): %q", i, b)
		}
	}
}
