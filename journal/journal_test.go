package journal

import (
	"bytes"
	"math"
	"testing"

	"outcrop/api"
	"outcrop/disk"
)

// ownFile is where the journal lies.
func ownFile() api.File { return api.File{Kind: 1} }

// bytesOf are the bytes of a block, other ones for each number.
func bytesOf(n int) []byte {
	b := make([]byte, 32)
	for i := range b {
		b[i] = byte(n*37 + n>>8*11 + i*5 + 1)
	}
	return b
}

// place is where a block stands.
type place struct {
	f api.File
	i int
}

// shown is what is to be read of all blocks that were ever handed to a Group.
type shown map[place]string

// with is what is shown when a group was written, in order.
func (s shown) with(l []api.Put) shown {
	out := shown{}
	for at, b := range s {
		out[at] = b
	}
	for _, p := range l {
		out[place{p.F, p.I}] = string(p.B)
	}
	return out
}

// blank has noughts at each place of a group that s does not know.
func (s shown) blank(l []api.Put) shown {
	out := s.with(nil)
	for _, p := range l {
		if _, is := out[place{p.F, p.I}]; !is {
			out[place{p.F, p.I}] = string(make([]byte, 32))
		}
	}
	return out
}

// on tells whether a disk has just that.
func (s shown) on(t *testing.T, d *disk.Disk) bool {
	t.Helper()
	for at, want := range s {
		b, e := d.Read(at.f, at.i)
		if e != api.OK {
			t.Fatalf("Read(%v, %d): error %d", at.f, at.i, e)
		}
		if string(b) != want {
			return false
		}
	}
	return true
}

// spread is a group of so many blocks over several files, no block twice; the bytes hang on which one it is.
func spread(n, which int) []api.Put {
	var l []api.Put
	for k := range n {
		f := api.File{Kind: 2 + k%2, X: k%3 - 1, Z: -(k % 5)}
		l = append(l, api.Put{F: f, I: (k * 17) % 4096, B: bytesOf(which*1000 + k)})
	}
	return l
}

// same is a group of so many blocks of one and the same place.
func same(n, which int) []api.Put {
	var l []api.Put
	for k := range n {
		l = append(l, api.Put{F: api.File{Kind: 2}, I: 9, B: bytesOf(which*1000 + k)})
	}
	return l
}

// opened is a disk's journal.
func opened(t *testing.T, d *disk.Disk) *Journal {
	t.Helper()
	j, e := Open(d)
	if e != api.OK || j == nil {
		t.Fatalf("Open: %v, error %d", j, e)
	}
	return j
}

// refused checks that Open answers that error, and no journal.
func refused(t *testing.T, what string, d *disk.Disk, want api.Errno) {
	t.Helper()
	if j, e := Open(d); e != want || j != nil {
		t.Errorf("%s: Open: %v, error %d, not %d", what, j, e, want)
	}
}

// groups checks what Group answers.
func groups(t *testing.T, what string, j *Journal, l []api.Put, want api.Errno) {
	t.Helper()
	if e := j.Group(l); e != want {
		t.Errorf("%s: Group of %d: %d, not %d", what, len(l), e, want)
	}
}

// has checks that a disk shows just that.
func has(t *testing.T, what string, d *disk.Disk, want shown) {
	t.Helper()
	if !want.on(t, d) {
		t.Errorf("%s: other blocks than were to be", what)
	}
}

// bounded checks that no file has a block but the journal's and those of places that may have one, and that the journal's is short enough.
func bounded(t *testing.T, what string, d *disk.Disk, may shown) {
	t.Helper()
	lens := map[api.File]int{}
	for at := range may {
		lens[at.f] = max(lens[at.f], at.i+1)
	}
	for _, f := range d.Files() {
		if f == ownFile() {
			if d.Len(f) > 2*256+1 {
				t.Errorf("%s: the journal has %d blocks", what, d.Len(f))
			}
			continue
		}
		if d.Len(f) > lens[f] {
			t.Errorf("%s: file %v has %d blocks, not %d", what, f, d.Len(f), lens[f])
		}
	}
}

// copied is a disk with the same blocks of the journal and of these places, and with power.
func copied(t *testing.T, d *disk.Disk, places shown) *disk.Disk {
	t.Helper()
	out := disk.New()
	copyBlock := func(f api.File, i int) {
		b, e := d.Read(f, i)
		if e != api.OK {
			t.Fatalf("Read(%v, %d): error %d", f, i, e)
		}
		if d.Len(f) > i && out.Write(f, i, b) != api.OK {
			t.Fatalf("Write(%v, %d)", f, i)
		}
	}
	for i := range d.Len(ownFile()) {
		copyBlock(ownFile(), i)
	}
	for at := range places {
		copyBlock(at.f, at.i)
	}
	return out
}

// The chapter's examples.
func TestExamples(t *testing.T) {
	d, f := disk.New(), api.File{Kind: 2}
	j := opened(t, d)
	old := []api.Put{{F: f, I: 0, B: bytesOf(1)}, {F: f, I: 1, B: bytesOf(2)}}
	groups(t, "two blocks", j, old, api.OK)
	has(t, "two blocks", d, shown{}.with(old))
	groups(t, "its own file", j, []api.Put{{F: ownFile(), I: 0, B: bytesOf(3)}}, api.ErrArg)
	groups(t, "too many", j, spread(257, 1), api.ErrFull)
	d.Cut(1)
	groups(t, "Cut(1)", j, []api.Put{{F: f, I: 0, B: bytesOf(4)}, {F: f, I: 1, B: bytesOf(5)}}, api.ErrDown)
	d.Up()
	opened(t, d)
	has(t, "Cut(1)", d, shown{}.with(old))
}

// P9.1: a new disk has a journal, which shows nothing and makes no file but its own.
func TestOpenOfANewDisk(t *testing.T) {
	d := disk.New()
	for range 3 {
		if opened(t, d) == opened(t, d) {
			t.Error("two of Open are one journal")
		}
	}
	bounded(t, "a new disk", d, shown{})
}

// P9.2: groups of none, of one, of some, of 256.
func TestGroupsOfAllSizes(t *testing.T) {
	for _, n := range []int{0, 1, 2, 3, 16, 255, 256} {
		for what, l := range map[string][]api.Put{"spread": spread(n, 1), "same": same(n, 1)} {
			d := disk.New()
			groups(t, what, opened(t, d), l, api.OK)
			want := shown{}.with(l)
			has(t, what, d, want)
			bounded(t, what, d, want)
			opened(t, d)
			has(t, what+", opened anew", d, want)
			bounded(t, what+", opened anew", d, want)
		}
	}
}

// P9.2: of none nothing is written, whether it is nil or empty; without power it is ErrDown.
func TestGroupOfNone(t *testing.T) {
	d := disk.New()
	j := opened(t, d)
	groups(t, "ahead", j, spread(2, 1), api.OK)
	before := d.Writes()
	for _, l := range [][]api.Put{nil, {}, spread(3, 2)[:0]} {
		groups(t, "none", j, l, api.OK)
	}
	d.Cut(1)
	groups(t, "none ahead of a Cut", j, nil, api.OK)
	if !d.On() || d.Writes() != before {
		t.Errorf("a Group of none has written %d blocks", d.Writes()-before)
	}
	d.Cut(0)
	groups(t, "none without power", j, nil, api.ErrDown)
	groups(t, "none without power", j, []api.Put{}, api.ErrDown)
	d.Up()
	has(t, "none", d, shown{}.with(spread(2, 1)))
}

// P9.2: each block's file, number and bytes, one wrong one at any place of the list; nothing is written then.
func TestWrongBlocks(t *testing.T) {
	f := api.File{Kind: 2, X: 7}
	wrong := map[string]api.Put{
		"Kind 1":                  {F: ownFile(), I: 5, B: bytesOf(1)},
		"Kind 1, elsewhere":       {F: api.File{Kind: 1, X: 3, Z: -4}, I: 5, B: bytesOf(1)},
		"I -1":                    {F: f, I: -1, B: bytesOf(1)},
		"I 4096":                  {F: f, I: 4096, B: bytesOf(1)},
		"the least I":             {F: f, I: math.MinInt, B: bytesOf(1)},
		"the greatest I":          {F: f, I: math.MaxInt, B: bytesOf(1)},
		"I of 2^32":               {F: f, I: 1 << 32, B: bytesOf(1)},
		"nil":                     {F: f, I: 5},
		"no bytes":                {F: f, I: 5, B: []byte{}},
		"31 bytes":                {F: f, I: 5, B: bytesOf(1)[:31]},
		"33 bytes":                {F: f, I: 5, B: make([]byte, 33)},
		"64 bytes":                {F: f, I: 5, B: make([]byte, 64)},
		"all of it":               {F: ownFile(), I: 4096, B: bytesOf(1)[:31]},
		"nothing of a put at all": {},
	}
	for what, p := range wrong {
		d := disk.New()
		j := opened(t, d)
		groups(t, what, j, spread(3, 1), api.OK)
		before := d.Writes()
		for _, n := range []int{0, 1, 2, 255, 256, 257, 300} {
			for _, at := range []int{0, n / 2, n} {
				l := spread(n, 2)
				l = append(l[:at:at], append([]api.Put{p}, l[at:]...)...)
				groups(t, what, j, l, api.ErrArg)
			}
		}
		d.Cut(0)
		groups(t, what+", no power", j, []api.Put{p}, api.ErrArg)
		groups(t, what+", no power", j, append(spread(257, 2), p), api.ErrArg)
		d.Up()
		if d.Writes() != before {
			t.Errorf("%s: %d blocks were written", what, d.Writes()-before)
		}
		has(t, what, d, shown{}.with(spread(3, 1)))
	}
}

// P9.2: files of any other Kind and of any place may be, and the least and the greatest number of a block.
func TestBlocksThatMayBe(t *testing.T) {
	ends := []int{math.MinInt, -1 << 40, -256, -1, 0, 1, 2, 127, 128, 255, 256, 1 << 32, math.MaxInt}
	var l []api.Put
	for n, v := range ends {
		for _, i := range []int{0, 4095} {
			l = append(l, api.Put{F: api.File{Kind: 2, X: v, Z: -v}, I: i, B: bytesOf(n)})
			if v != 1 {
				l = append(l, api.Put{F: api.File{Kind: v, X: 1}, I: i, B: bytesOf(n + 50)})
			}
		}
	}
	want := shown{}.with(l)
	d := disk.New()
	groups(t, "files that may be", opened(t, d), l, api.OK)
	has(t, "files that may be", d, want)
	bounded(t, "files that may be", d, want)
	cutEverywhere(t, "files that may be", nil, l)
}

// P9.2, R2: more than 256 is ErrFull, ahead of ErrDown and behind ErrArg, and nothing is written.
func TestTooMany(t *testing.T) {
	d := disk.New()
	j := opened(t, d)
	for _, n := range []int{257, 258, 512, 513, 4096} {
		groups(t, "too many", j, spread(n, 1), api.ErrFull)
		groups(t, "too many of one place", j, same(n, 1), api.ErrFull)
	}
	d.Cut(0)
	groups(t, "too many without power", j, spread(257, 1), api.ErrFull)
	groups(t, "256 without power", j, spread(256, 1), api.ErrDown)
	if d.Writes() != 0 {
		t.Errorf("%d blocks were written", d.Writes())
	}
}

// P9.1, P9.2: a Group and an Open when the power is out.
func TestNoPower(t *testing.T) {
	d := disk.New()
	d.Cut(0)
	refused(t, "a new disk without power", d, api.ErrDown)
	d.Up()
	j := opened(t, d)
	groups(t, "ahead", j, spread(4, 1), api.OK)
	d.Cut(0)
	before := d.Writes()
	for range 3 {
		refused(t, "without power", d, api.ErrDown)
		groups(t, "without power", j, spread(4, 2), api.ErrDown)
	}
	if d.On() || d.Writes() != before {
		t.Error("a block was written without power")
	}
	d.Up()
	opened(t, d)
	has(t, "behind a Group without power", d, shown{}.with(spread(4, 1)))
}

// R1: no disk has no power, and neither has no journal; no call panics there.
func TestNoDisk(t *testing.T) {
	refused(t, "no disk", nil, api.ErrDown)
	var none *Journal
	for _, j := range []*Journal{none, {}} {
		groups(t, "no journal", j, nil, api.ErrDown)
		groups(t, "no journal", j, spread(2, 1), api.ErrDown)
		groups(t, "no journal", j, spread(257, 1), api.ErrFull)
		groups(t, "no journal", j, []api.Put{{}}, api.ErrArg)
	}
}

// P9.2: blocks are written in order: of the same block twice the later one stays.
func TestTheLaterOneStays(t *testing.T) {
	f, g := api.File{Kind: 2}, api.File{Kind: 2, Z: 1}
	l := []api.Put{
		{F: f, I: 3, B: bytesOf(1)}, {F: g, I: 3, B: bytesOf(2)}, {F: f, I: 3, B: bytesOf(3)},
		{F: f, I: 4, B: bytesOf(4)}, {F: g, I: 3, B: bytesOf(5)}, {F: f, I: 4, B: bytesOf(1)},
	}
	want := shown{{f, 3}: string(bytesOf(3)), {g, 3}: string(bytesOf(5)), {f, 4}: string(bytesOf(1))}
	d := disk.New()
	groups(t, "twice", opened(t, d), l, api.OK)
	has(t, "twice", d, want)
	cutEverywhere(t, "twice", spread(3, 1), l)
	cutEverywhere(t, "one place, again and again", same(2, 1), same(5, 2))
}

// P9.2: groups one behind the other, greater and smaller ones, with and without an Open between them, by one journal and by two.
func TestGroupsBehindGroups(t *testing.T) {
	for _, anew := range []bool{false, true} {
		d := disk.New()
		j, other := opened(t, d), opened(t, d)
		want := shown{}
		for which, n := range []int{1, 5, 2, 256, 3, 0, 256, 1, 7} {
			if anew {
				j = opened(t, d)
			} else if which%3 == 2 {
				j, other = other, j
			}
			l := spread(n, which+1)
			groups(t, "behind groups", j, l, api.OK)
			want = want.with(l)
			has(t, "behind groups", d, want)
			bounded(t, "behind groups", d, want)
		}
		opened(t, d)
		has(t, "opened at last", d, want)
	}
}

// P9.1, P9.3: a Group that was OK, and an Open that was, leave nothing to be done: what is written to those blocks behind them stays, whatever Open or Group comes.
func TestNothingIsDoneTwice(t *testing.T) {
	for n := range 16 {
		l := spread(3, 1)
		d, e := crashed(t, nil, l, n)
		if e != api.OK {
			opened(t, d)
		}
		later := shown{}.with(spread(3, 2))
		for _, p := range spread(3, 2) {
			d.Write(p.F, p.I, p.B)
		}
		before := d.Writes()
		j := opened(t, d)
		has(t, "Open behind what was done", d, later)
		if d.Writes() != before {
			t.Errorf("cut behind %d: Open has written %d blocks", n, d.Writes()-before)
		}
		other := []api.Put{{F: api.File{Kind: 9}, I: 1, B: bytesOf(5)}}
		groups(t, "behind what was done", j, other, api.OK)
		opened(t, d)
		has(t, "Group behind what was done", d, later.with(other))
	}
}

// R3: what is handed in stays, and may be changed behind the call.
func TestBytesAreApart(t *testing.T) {
	d := disk.New()
	j := opened(t, d)
	shared := bytesOf(9)
	l := append(spread(5, 1), api.Put{F: api.File{Kind: 4}, I: 1, B: shared}, api.Put{F: api.File{Kind: 4}, I: 2, B: shared})
	want := shown{}.with(l)
	groups(t, "handed in", j, l, api.OK)
	for k, p := range l {
		if k < 5 && !bytes.Equal(p.B, bytesOf(1000+k)) {
			t.Error("Group has changed what it was handed")
		}
	}
	scramble(l)
	has(t, "changed behind the call", d, want)
	opened(t, d)
	has(t, "changed behind the call, opened anew", d, want)
}

// scramble changes all of a list.
func scramble(l []api.Put) {
	for k := range l {
		for i := range l[k].B {
			l[k].B[i] ^= byte(0x55 + k + i)
		}
		l[k].F.X++
		l[k].I ^= 1
	}
}

// R3, P9.3: bytes of a group that was cut off may be changed too, ahead of the Open that does it.
func TestBytesAreApartWhenCutOff(t *testing.T) {
	for n := range 20 {
		d := disk.New()
		j := opened(t, d)
		l := spread(4, 1)
		none, all := shown{}.blank(l), shown{}.with(l)
		d.Cut(n)
		j.Group(l)
		scramble(l)
		d.Up()
		opened(t, d)
		if !none.on(t, d) && !all.on(t, d) {
			t.Errorf("cut behind %d: neither whole nor not at all", n)
		}
	}
}

// crashed is a disk on which old was written as a group, and l then with the power out behind n writes; what Group has answered. The power is there again, and nothing was opened.
func crashed(t *testing.T, old, l []api.Put, n int) (*disk.Disk, api.Errno) {
	t.Helper()
	d := disk.New()
	j := opened(t, d)
	groups(t, "ahead", j, old, api.OK)
	before := d.Writes()
	d.Cut(n)
	e := j.Group(l)
	if e != api.OK && e != api.ErrDown {
		t.Errorf("cut behind %d: Group: %d", n, e)
	}
	if d.On() != (e == api.OK) {
		t.Errorf("cut behind %d: Group: %d, and On is %v", n, e, d.On())
	}
	if n < 1 && d.Writes() != before {
		t.Errorf("%d blocks were written without power", d.Writes()-before)
	}
	d.Up()
	return d, e
}

// cutEverywhere checks, for every number of writes behind which the power may go out within a Group, that behind an Open it is there whole or not at all, and does the same within that Open.
func cutEverywhere(t *testing.T, what string, old, l []api.Put) {
	t.Helper()
	none := shown{}.with(old).blank(l)
	all := none.with(l)
	for n := 0; ; n++ {
		d, e := crashed(t, old, l, n)
		whole := cutOpens(t, what, d, none, all)
		if e == api.OK && !whole {
			t.Errorf("%s, cut behind %d: the Group was OK, and is not there", what, n)
		}
		if n == 0 && !none.on(t, d) {
			t.Errorf("%s: not one block was written, and the Group is there", what)
		}
		bounded(t, what, d, all)
		if e == api.OK || t.Failed() {
			return
		}
	}
}

// cutOpens opens a disk with the power out behind every number of writes within the Open, each time on a copy of it, and there once more and behind fewer ones; at last it opens the disk itself. All must show the same: whether it is the group.
func cutOpens(t *testing.T, what string, d *disk.Disk, none, all shown) bool {
	t.Helper()
	var wholes []bool
	for m, done := 0, false; !done; m++ {
		c := copied(t, d, all)
		done = cutOpen(t, what, c, m)
		for _, again := range []int{m, m / 2, 1} {
			cutOpen(t, what, c, again)
		}
		opened(t, c)
		wholes = append(wholes, isWhole(t, what, c, none, all))
		bounded(t, what, c, all)
	}
	opened(t, d)
	whole := isWhole(t, what, d, none, all)
	for m, w := range wholes {
		if w != whole {
			t.Errorf("%s, Open cut behind %d: the group is there (%v), without a cut %v", what, m, w, whole)
		}
	}
	return whole
}

// cutOpen opens a disk with the power out behind so many writes, and tells whether that came to its end ahead of it. The power is there again behind it.
func cutOpen(t *testing.T, what string, d *disk.Disk, m int) bool {
	t.Helper()
	before := d.Writes()
	d.Cut(m)
	j, e := Open(d)
	if e != api.OK && e != api.ErrDown || (j != nil) != (e == api.OK) {
		t.Fatalf("%s, Open cut behind %d: %v, error %d", what, m, j, e)
	}
	if d.On() != (e == api.OK) || d.Writes()-before > max(m, 0) {
		t.Errorf("%s, Open cut behind %d: error %d, On is %v, %d writes", what, m, e, d.On(), d.Writes()-before)
	}
	d.Up()
	return e == api.OK
}

// isWhole tells whether a disk has a group whole; it has it not at all otherwise.
func isWhole(t *testing.T, what string, d *disk.Disk, none, all shown) bool {
	t.Helper()
	whole := all.on(t, d)
	if !whole && !none.on(t, d) {
		t.Errorf("%s: a group is there in part", what)
	}
	return whole
}

// P9.3: every cut within a Group, and every cut within the Open behind it, for groups of some blocks, over new and over older blocks.
func TestCutEverywhere(t *testing.T) {
	for _, n := range []int{1, 2, 3, 4, 7, 16} {
		cutEverywhere(t, "over nothing", nil, spread(n, 2))
		cutEverywhere(t, "over the same places", spread(n, 1), spread(n, 2))
		cutEverywhere(t, "over fewer", spread(n/2+1, 1), spread(n, 2))
		cutEverywhere(t, "over more", spread(n+5, 1), spread(n, 2))
		cutEverywhere(t, "the very same group again", spread(n, 1), spread(n, 1))
	}
}

// P9.3: every cut within the greatest group, and every cut within an Open that has all of it to do.
func TestCutTheGreatestGroup(t *testing.T) {
	old, l := spread(256, 1), spread(256, 2)
	none := shown{}.with(old)
	all := none.with(l)
	var half *disk.Disk
	seen := map[bool]int{}
	for n := 0; ; n++ {
		d, e := crashed(t, old, l, n)
		if e != api.OK {
			half = copied(t, d, all)
		}
		opened(t, d)
		whole := isWhole(t, "the greatest group", d, none, all)
		seen[whole]++
		if e == api.OK && !whole || n == 0 && whole {
			t.Errorf("cut behind %d: Group: %d, and it is there: %v", n, e, whole)
		}
		if seen[true] == 1 {
			cutOpens(t, "the greatest group", half, none, all)
		}
		bounded(t, "the greatest group", d, all)
		if e == api.OK || t.Failed() {
			break
		}
	}
	if seen[true] == 0 || seen[false] == 0 {
		t.Errorf("the group was there behind %d cuts, and not behind %d", seen[true], seen[false])
	}
}

// P9.3: what comes behind a group that was cut off knows nothing of it: further groups, and cuts within them.
func TestGroupsBehindACut(t *testing.T) {
	first, second := spread(5, 1), spread(3, 2)
	for n := range 24 {
		for m := range 18 {
			d, e := crashed(t, nil, first, n)
			j := opened(t, d)
			none := shown{}.blank(first)
			if isWhole(t, "the first group", d, none, none.with(first)) {
				none = none.with(first)
			} else if e == api.OK {
				t.Errorf("cut behind %d: the first group is not there", n)
			}
			d.Cut(m)
			e = j.Group(second)
			d.Up()
			j = opened(t, d)
			all := none.with(second)
			whole := isWhole(t, "the second group", d, none, all)
			if e == api.OK && !whole || m == 0 && whole {
				t.Errorf("cut behind %d and %d: Group: %d, and it is there: %v", n, m, e, whole)
			}
			groups(t, "a third group", j, spread(6, 3), api.OK)
			opened(t, d)
			has(t, "a third group", d, none.with(spread(6, 3)))
		}
	}
}

// P9.3: a journal that is asked again behind ErrDown, though it was to be opened anew, leaves no group in part; nor does another journal of that disk.
func TestNotOpenedAnew(t *testing.T) {
	first, second := spread(4, 1), spread(2, 2)
	for n := range 20 {
		for m := range 24 {
			d := disk.New()
			j, other := opened(t, d), opened(t, d)
			d.Cut(n)
			j.Group(first)
			d.Up()
			if m%2 == 1 {
				j = other
			}
			d.Cut(m)
			e := j.Group(second)
			d.Up()
			opened(t, d)
			none := shown{}.blank(first)
			ok := false
			for _, s := range []shown{none, none.with(first), none.with(second), none.with(first).with(second)} {
				ok = ok || s.on(t, d)
			}
			if !ok {
				t.Errorf("cut behind %d and %d: a group is there in part", n, m)
			}
			if e == api.OK && !written(second).on(t, d) {
				t.Errorf("cut behind %d and %d: the second group is not there", n, m)
			}
		}
	}
}

// written is what is shown of a group that is there.
func written(l []api.Put) shown { return shown{}.with(l) }

// P9.1: blocks that no journal has written are told by its sums; no Open of these panics, or writes anything.
func TestForeignBlocks(t *testing.T) {
	for what, b := range map[string][]byte{
		"ones": bytes.Repeat([]byte{0xff}, 32), "some": bytesOf(7), "text": []byte("a text that is no journal's head"),
		"a one": append([]byte{1}, make([]byte, 31)...), "the last": append(make([]byte, 31), 1),
		"many": append([]byte{1, 1}, make([]byte, 30)...),
	} {
		d := disk.New()
		d.Write(ownFile(), 0, b)
		refused(t, what, d, api.ErrSum)
		for i := range 514 {
			d.Write(ownFile(), i, b)
		}
		before := d.Writes()
		refused(t, what+" everywhere", d, api.ErrSum)
		d.Cut(0)
		refused(t, what+" without power", d, api.ErrDown)
		if d.Writes() != before || len(d.Files()) != 1 {
			t.Errorf("%s: Open has written", what)
		}
	}
}

// pending is a disk on which a group has its head, and not one of its own blocks was written.
func pending(t *testing.T, l []api.Put) *disk.Disk {
	t.Helper()
	for n := 0; n < 4*len(l)+8; n++ {
		d, _ := crashed(t, nil, l, n)
		c := copied(t, d, written(l))
		opened(t, c)
		if written(l).on(t, c) {
			return d
		}
	}
	t.Fatal("no cut leaves a group to be done")
	return nil
}

// P9.1: any bit that is another one in what a group has left is told, and nothing of the group is written then.
func TestOtherBits(t *testing.T) {
	l := []api.Put{{F: api.File{Kind: 2, X: -1, Z: 300}, I: 77, B: bytesOf(1)}, {F: api.File{Kind: 3}, I: 4095, B: bytesOf(2)}}
	d := pending(t, l)
	for i := range d.Len(ownFile()) {
		b, _ := d.Read(ownFile(), i)
		for bit := range 256 {
			c := copied(t, d, written(l))
			turned := bytes.Clone(b)
			turned[bit/8] ^= 1 << (bit % 8)
			c.Write(ownFile(), i, turned)
			before := c.Writes()
			refused(t, "another bit", c, api.ErrSum)
			if c.Writes() != before {
				t.Errorf("block %d, bit %d: Open has written", i, bit)
			}
		}
	}
	opened(t, d)
	has(t, "as it was", d, written(l))
}

// P9.1: notes whose sum is right, but which no Group would have taken, are no journal's either.
func TestWrongNotes(t *testing.T) {
	for what, p := range map[string]api.Put{
		"its own file": {F: ownFile(), I: 0, B: bytesOf(1)},
		"I 4096":       {F: api.File{Kind: 2}, I: 4096, B: bytesOf(1)},
		"I -1":         {F: api.File{Kind: 2}, I: -1, B: bytesOf(1)},
	} {
		d := disk.New()
		g := group{[]api.Put{p}}
		if e := inTurn(d, []func() []api.Put{g.notes, g.head}); e != api.OK {
			t.Fatalf("%s: error %d", what, e)
		}
		before := d.Writes()
		refused(t, what, d, api.ErrSum)
		if d.Writes() != before {
			t.Errorf("%s: Open has written", what)
		}
	}
}
