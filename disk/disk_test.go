package disk

import (
	"bytes"
	"math"
	"slices"
	"testing"

	"outcrop/api"
)

// bytesOf are the bytes of a block, other ones for each number.
func bytesOf(n int) []byte {
	b := make([]byte, 32)
	for i := range b {
		b[i] = byte(n*37 + n>>8*11 + i*5 + 1)
	}
	return b
}

// noughts are what a block has that was never written.
func noughts() []byte { return make([]byte, 32) }

// wrongNumbers are numbers that no block has; the lowest bits of some are those of one that is written.
func wrongNumbers() []int {
	return []int{
		-1, -2, -32, -4095, -4096, -4097, 4096, 4097, 8191, 8192, 65535, 65536,
		math.MinInt, math.MinInt + 1, math.MinInt + 5, math.MaxInt, math.MaxInt - 1,
		math.MinInt32, math.MaxInt32, 1<<32 | 5, 1<<16 | 5, 1<<12 | 5, 1<<62 | 5,
	}
}

// wrongBytes are bytes that are no block.
func wrongBytes() [][]byte {
	var l [][]byte
	for _, n := range []int{0, 1, 16, 30, 31, 33, 34, 63, 64, 96, 1024, 32 * 4096} {
		l = append(l, bytes.Repeat([]byte{7}, n))
	}
	return append(l, nil)
}

// writes checks what a Write answers.
func writes(t *testing.T, d *Disk, f api.File, i int, b []byte, want api.Errno) {
	t.Helper()
	if e := d.Write(f, i, b); e != want {
		t.Errorf("Write(%v, %d, %d bytes): %d, not %d", f, i, len(b), e, want)
	}
}

// reads checks that a block has these bytes.
func reads(t *testing.T, d *Disk, f api.File, i int, want []byte) {
	t.Helper()
	b, e := d.Read(f, i)
	if e != api.OK || !bytes.Equal(b, want) {
		t.Errorf("Read(%v, %d): %x, error %d, not %x", f, i, b, e, want)
	}
}

// refuses checks that a Read answers that error, and nothing else.
func refuses(t *testing.T, d *Disk, f api.File, i int, want api.Errno) {
	t.Helper()
	if b, e := d.Read(f, i); e != want || len(b) != 0 {
		t.Errorf("Read(%v, %d): %d bytes, error %d, not %d", f, i, len(b), e, want)
	}
}

// power checks On.
func power(t *testing.T, what string, d *Disk, want bool) {
	t.Helper()
	if d.On() != want {
		t.Errorf("%s: On is %v", what, d.On())
	}
}

// counts checks Writes.
func counts(t *testing.T, what string, d *Disk, want int) {
	t.Helper()
	if d.Writes() != want {
		t.Errorf("%s: Writes is %d, not %d", what, d.Writes(), want)
	}
}

// long checks Len.
func long(t *testing.T, d *Disk, f api.File, want int) {
	t.Helper()
	if n := d.Len(f); n != want {
		t.Errorf("Len(%v): %d, not %d", f, n, want)
	}
}

// lists checks Files.
func lists(t *testing.T, what string, d *Disk, want ...api.File) {
	t.Helper()
	if l := d.Files(); !slices.Equal(l, want) {
		t.Errorf("%s: Files are %v, not %v", what, l, want)
	}
}

// goesOutBehind checks that just so many blocks can be written till the power is out.
func goesOutBehind(t *testing.T, what string, d *Disk, n int) {
	t.Helper()
	f := api.File{Kind: 9, X: 9, Z: 9}
	for k := range n {
		if !d.On() {
			t.Errorf("%s: out behind %d writes, not behind %d", what, k, n)
			return
		}
		if e := d.Write(f, k, bytesOf(k)); e != api.OK {
			t.Errorf("%s: error %d at write %d of %d", what, e, k+1, n)
			return
		}
	}
	power(t, what, d, false)
	writes(t, d, f, n, bytesOf(n), api.ErrDown)
}

// staysOn checks that blocks can be written and written, and the power stays there.
func staysOn(t *testing.T, what string, d *Disk) {
	t.Helper()
	for k := range 300 {
		power(t, what, d, true)
		writes(t, d, api.File{Kind: 8}, k%7, bytesOf(k), api.OK)
	}
	power(t, what, d, true)
}

// The chapter's examples, in one row.
func TestExamples(t *testing.T) {
	d, f := New(), api.File{Kind: 2}
	writes(t, d, f, 3, bytesOf(1), api.OK)
	long(t, d, f, 4)
	long(t, d, api.File{Kind: 2, X: 1}, 0)
	d.Cut(1)
	writes(t, d, f, 3, bytesOf(2), api.OK)
	power(t, "behind the Cut", d, false)
	writes(t, d, f, 3, bytesOf(3), api.ErrDown)
	refuses(t, d, f, 3, api.ErrDown)
	d.Up()
	reads(t, d, f, 3, bytesOf(2))
}

// P8.1, P8.2: blocks from 0 to 4095, and none else.
func TestNumbersOfBlocks(t *testing.T) {
	d, f := New(), api.File{Kind: 2, X: 3, Z: 4}
	for n, i := range []int{0, 1, 2047, 4094, 4095} {
		writes(t, d, f, i, bytesOf(i), api.OK)
		reads(t, d, f, i, bytesOf(i))
		counts(t, "blocks that may be", d, n+1)
		long(t, d, f, i+1)
	}
	for _, i := range wrongNumbers() {
		writes(t, d, f, i, bytesOf(1), api.ErrArg)
		refuses(t, d, f, i, api.ErrArg)
	}
	counts(t, "blocks that may not be", d, 5)
	long(t, d, f, 4096)
	for _, i := range []int{0, 1, 2047, 4094, 4095} {
		reads(t, d, f, i, bytesOf(i))
	}
	reads(t, d, f, 5, noughts())
}

// P8.1: a block has 32 bytes, neither more nor fewer.
func TestNumbersOfBytes(t *testing.T) {
	d, f := New(), api.File{Kind: 2}
	writes(t, d, f, 0, bytesOf(1), api.OK)
	for _, b := range wrongBytes() {
		writes(t, d, f, 0, b, api.ErrArg)
		writes(t, d, f, 9, b, api.ErrArg)
		writes(t, d, f, -1, b, api.ErrArg)
		writes(t, d, f, 4096, b, api.ErrArg)
		writes(t, d, api.File{Kind: 7}, 9, b, api.ErrArg)
	}
	counts(t, "behind wrong bytes", d, 1)
	reads(t, d, f, 0, bytesOf(1))
	reads(t, d, f, 9, noughts())
	long(t, d, f, 1)
	lists(t, "behind wrong bytes", d, f)
}

// P8.1, P8.2, R2: what may not be is told ahead of a power that is out.
func TestArgAheadOfDown(t *testing.T) {
	d, f := New(), api.File{Kind: 2}
	writes(t, d, f, 0, bytesOf(1), api.OK)
	d.Cut(0)
	for _, i := range wrongNumbers() {
		writes(t, d, f, i, bytesOf(2), api.ErrArg)
		writes(t, d, f, i, nil, api.ErrArg)
		refuses(t, d, f, i, api.ErrArg)
	}
	for _, b := range wrongBytes() {
		writes(t, d, f, 0, b, api.ErrArg)
		writes(t, d, f, 4095, b, api.ErrArg)
	}
	for _, i := range []int{0, 1, 4095} {
		writes(t, d, f, i, bytesOf(2), api.ErrDown)
		refuses(t, d, f, i, api.ErrDown)
		refuses(t, d, api.File{Kind: 3}, i, api.ErrDown)
	}
	power(t, "behind errors", d, false)
	counts(t, "behind errors", d, 1)
	lists(t, "behind errors", d, f)
	long(t, d, f, 1)
	d.Up()
	reads(t, d, f, 0, bytesOf(1))
	reads(t, d, f, 1, noughts())
}

// P8.2: a block that was never written has noughts, and reading makes neither a block nor a file.
func TestReadOfWhatWasNeverWritten(t *testing.T) {
	d, f := New(), api.File{Kind: 2}
	reads(t, d, f, 0, noughts())
	reads(t, d, f, 4095, noughts())
	lists(t, "behind reads", d)
	writes(t, d, f, 10, bytesOf(1), api.OK)
	for i := range 4096 {
		if i != 10 {
			reads(t, d, f, i, noughts())
		}
	}
	for _, g := range []api.File{{Kind: 1}, {Kind: 2, X: 1}, {Kind: 2, Z: -1}, {}} {
		reads(t, d, g, 10, noughts())
		long(t, d, g, 0)
	}
	lists(t, "behind reads", d, f)
	long(t, d, f, 11)
	counts(t, "behind reads", d, 1)
}

// P8.1: a block that is written again has the new bytes, and no other block has changed.
func TestWriteAgain(t *testing.T) {
	d := New()
	files := []api.File{{Kind: 1}, {Kind: 2}, {Kind: 2, X: 1}, {Kind: 2, Z: 1}}
	want := map[place][]byte{}
	put := func(f api.File, i, n int) {
		writes(t, d, f, i, bytesOf(n), api.OK)
		want[place{f, i}] = bytesOf(n)
	}
	same := func() {
		t.Helper()
		for p, b := range want {
			reads(t, d, p.file, p.i, b)
		}
	}
	for n, f := range files {
		for _, i := range []int{0, 1, 2, 31, 32, 33, 4094, 4095} {
			put(f, i, n*5000+i)
		}
	}
	same()
	for n, i := range []int{1, 32, 4095, 0, 1} {
		put(files[1], i, 30000+n)
		same()
		long(t, d, files[1], 4096)
	}
	writes(t, d, files[2], 1, noughts(), api.OK)
	want[place{files[2], 1}] = noughts()
	same()
	counts(t, "behind blocks that were written again", d, 38)
}

// R3: neither the bytes that were handed in nor those that were answered are the disk's own.
func TestBytesAreApart(t *testing.T) {
	d, f := New(), api.File{Kind: 2}
	b := append(bytesOf(4), 0xee, 0xee)
	writes(t, d, f, 7, b[:32], api.OK)
	if !bytes.Equal(b, append(bytesOf(4), 0xee, 0xee)) {
		t.Error("Write has changed what it was handed")
	}
	clear(b)
	reads(t, d, f, 7, bytesOf(4))
	for _, i := range []int{7, 8} {
		want, _ := d.Read(f, i)
		want = bytes.Clone(want)
		one, _ := d.Read(f, i)
		two, _ := d.Read(f, i)
		for k := range one {
			one[k] ^= 0xff
		}
		_ = append(one[:0], bytesOf(99)...)
		if !bytes.Equal(two, want) {
			t.Errorf("block %d: two of Read are the same bytes", i)
		}
		reads(t, d, f, i, want)
	}
	old, _ := d.Read(f, 7)
	writes(t, d, f, 7, bytesOf(5), api.OK)
	if !bytes.Equal(old, bytesOf(4)) {
		t.Error("what Read has answered changes with a later Write")
	}
	writes(t, d, f, 8, old, api.OK)
	old[0]++
	reads(t, d, f, 8, bytesOf(4))
}

// P8.3: at first the power is there, and stays; nothing was written.
func TestNew(t *testing.T) {
	d := New()
	power(t, "at first", d, true)
	counts(t, "at first", d, 0)
	lists(t, "at first", d)
	long(t, d, api.File{}, 0)
	staysOn(t, "without a Cut", d)
}

// P8.3: the power goes out when n more blocks have been written, at once below 1.
func TestCut(t *testing.T) {
	for _, n := range []int{math.MinInt, -4096, -2, -1, 0, 1, 2, 3, 7, 300} {
		d := New()
		d.Cut(n)
		goesOutBehind(t, "Cut", d, max(n, 0))
		counts(t, "behind a Cut", d, max(n, 0))
		d.Up()
		staysOn(t, "Up behind a Cut that has come", d)
	}
	for _, n := range []int{math.MaxInt, math.MaxInt32, 1 << 32, 1 << 40} {
		d := New()
		d.Cut(n)
		staysOn(t, "a Cut far away", d)
	}
}

// P8.1, P8.3: a Cut counts from the call on, and the block ahead of it is there as a whole.
func TestCutBehindWrites(t *testing.T) {
	d, f := New(), api.File{Kind: 2}
	for i := range 5 {
		writes(t, d, f, i, bytesOf(i), api.OK)
	}
	d.Cut(2)
	power(t, "ahead of the first write", d, true)
	writes(t, d, f, 0, bytesOf(10), api.OK)
	power(t, "ahead of the second write", d, true)
	writes(t, d, f, 0, bytesOf(11), api.OK)
	power(t, "behind the second write", d, false)
	writes(t, d, f, 0, bytesOf(12), api.ErrDown)
	writes(t, d, f, 5, bytesOf(12), api.ErrDown)
	writes(t, d, api.File{Kind: 3}, 0, bytesOf(12), api.ErrDown)
	d.Up()
	reads(t, d, f, 0, bytesOf(11))
	for i := 1; i < 5; i++ {
		reads(t, d, f, i, bytesOf(i))
	}
	reads(t, d, f, 5, noughts())
	reads(t, d, api.File{Kind: 3}, 0, noughts())
	counts(t, "behind a Cut", d, 7)
	long(t, d, f, 5)
	lists(t, "behind a Cut", d, f)
}

// P8.3: a Cut counts blocks that were written, again or anew, in whatever file: nothing that was read, asked or refused.
func TestCutCountsWritesAlone(t *testing.T) {
	d, f := New(), api.File{Kind: 2}
	d.Cut(3)
	for range 20 {
		reads(t, d, f, 0, noughts())
		refuses(t, d, f, -1, api.ErrArg)
		writes(t, d, f, 4096, bytesOf(1), api.ErrArg)
		writes(t, d, f, 0, bytesOf(1)[:31], api.ErrArg)
		d.Files()
		d.Len(f)
		d.Writes()
	}
	writes(t, d, f, 0, bytesOf(1), api.OK)
	reads(t, d, f, 0, bytesOf(1))
	writes(t, d, f, 0, bytesOf(1), api.OK)
	writes(t, d, f, 0, nil, api.ErrArg)
	power(t, "behind two writes", d, true)
	writes(t, d, api.File{Kind: 1}, 0, bytesOf(1), api.OK)
	power(t, "behind three writes", d, false)
}

// P8.3: a Cut ahead of another one is forgotten, a longer and a shorter one, at once and half way.
func TestCutBehindACut(t *testing.T) {
	for _, first := range []int{1, 2, 3, 10, math.MaxInt} {
		for _, second := range []int{-1, 0, 1, 2, 3, 10} {
			for _, between := range []int{0, 1, 2} {
				if between >= first {
					continue
				}
				d := New()
				d.Cut(first)
				for i := range between {
					writes(t, d, api.File{Kind: 2}, i, bytesOf(i), api.OK)
				}
				d.Cut(second)
				goesOutBehind(t, "a Cut behind a Cut", d, max(second, 0))
			}
		}
	}
}

// P8.3: power that is out stays out, whatever Cut is told; and Up knows of no Cut.
func TestCutWhenOut(t *testing.T) {
	for _, n := range []int{math.MinInt, -1, 0, 1, 2, 10, math.MaxInt} {
		for _, first := range []int{0, 1} {
			d, f := New(), api.File{Kind: 2}
			d.Cut(first)
			if first == 1 {
				writes(t, d, f, 0, bytesOf(0), api.OK)
			}
			d.Cut(n)
			power(t, "a Cut when it is out", d, false)
			writes(t, d, f, 0, bytesOf(1), api.ErrDown)
			refuses(t, d, f, 0, api.ErrDown)
			power(t, "a Cut when it is out", d, false)
			d.Up()
			power(t, "Up", d, true)
			staysOn(t, "Up behind a Cut when it was out", d)
		}
	}
}

// P8.3: Up forgets a Cut that has not come yet, and changes nothing when the power is there.
func TestUp(t *testing.T) {
	d, f := New(), api.File{Kind: 2}
	d.Up()
	power(t, "Up at first", d, true)
	writes(t, d, f, 2, bytesOf(2), api.OK)
	d.Up()
	d.Up()
	power(t, "Up when the power is there", d, true)
	reads(t, d, f, 2, bytesOf(2))
	counts(t, "Up when the power is there", d, 1)
	lists(t, "Up when the power is there", d, f)
	long(t, d, f, 3)
	d.Cut(2)
	writes(t, d, f, 0, bytesOf(0), api.OK)
	d.Up()
	staysOn(t, "Up ahead of a Cut that was to come", d)
	d.Cut(2)
	goesOutBehind(t, "a Cut behind Up", d, 2)
	refuses(t, d, f, 0, api.ErrDown)
	d.Up()
	reads(t, d, f, 0, bytesOf(0))
	reads(t, d, f, 2, bytesOf(2))
}

// P8.3: Writes counts each block that was written, the same one each time, over a power that was out; nothing else.
func TestWrites(t *testing.T) {
	d, f := New(), api.File{Kind: 2}
	for n := range 10 {
		writes(t, d, f, 1, bytesOf(3), api.OK)
		counts(t, "the same block again", d, n+1)
	}
	writes(t, d, f, 1, nil, api.ErrArg)
	writes(t, d, f, -1, bytesOf(3), api.ErrArg)
	reads(t, d, f, 1, bytesOf(3))
	d.Cut(2)
	counts(t, "what is not a write", d, 10)
	writes(t, d, f, 2, bytesOf(4), api.OK)
	writes(t, d, api.File{Kind: 1}, 2, bytesOf(4), api.OK)
	writes(t, d, f, 2, bytesOf(4), api.ErrDown)
	counts(t, "when the power is out", d, 12)
	d.Cut(5)
	counts(t, "when the power is out", d, 12)
	d.Up()
	counts(t, "behind Up", d, 12)
	writes(t, d, f, 2, bytesOf(4), api.OK)
	counts(t, "behind Up", d, 13)
}

// manyFiles are files by rising Kind, X, Z: next to each other they differ in one of the three or more, below nought too.
func manyFiles() []api.File {
	numbers := []int{math.MinInt, -2, -1, 0, 1, 2, 10, math.MaxInt}
	var l []api.File
	for _, kind := range numbers {
		for _, x := range numbers {
			for _, z := range numbers {
				l = append(l, api.File{Kind: kind, X: x, Z: z})
			}
		}
	}
	return l
}

// P8.4: files by rising Kind, X, Z, however they were written; each once, and each with a length of its own.
func TestFiles(t *testing.T) {
	l := manyFiles()
	falling := New()
	for n := len(l) - 1; n >= 0; n-- {
		writes(t, falling, l[n], n, bytesOf(n), api.OK)
	}
	mixed := New()
	for n := range l {
		m := n * 147 % len(l)
		writes(t, mixed, l[m], m, bytesOf(m), api.OK)
		writes(t, mixed, l[m], 0, bytesOf(m), api.OK)
	}
	for what, d := range map[string]*Disk{"falling": falling, "mixed": mixed} {
		lists(t, what, d, l...)
		for n, f := range l {
			long(t, d, f, n+1)
			reads(t, d, f, n, bytesOf(n))
		}
		d.Cut(0)
		lists(t, what+", the power out", d, l...)
	}
}

// P8.4: files that differ in just one of the three are others.
func TestFilesDifferInOne(t *testing.T) {
	for _, f := range []api.File{{Kind: 2, X: 5, Z: 6}, {Kind: 0, X: 0, Z: 0}, {Kind: -1, X: -5, Z: -6}} {
		for _, by := range []int{1, 16, 256, 1 << 32} {
			others := []api.File{
				{Kind: f.Kind, X: f.X, Z: f.Z + by}, {Kind: f.Kind, X: f.X + by, Z: f.Z}, {Kind: f.Kind + by, X: f.X, Z: f.Z},
			}
			for n := range others {
				d := New()
				writes(t, d, others[n], 4, bytesOf(4), api.OK)
				lists(t, "one file", d, others[n])
				long(t, d, f, 0)
				reads(t, d, f, 4, noughts())
				writes(t, d, f, 1, bytesOf(1), api.OK)
				lists(t, "two files", d, f, others[n])
				long(t, d, f, 2)
				long(t, d, others[n], 5)
				reads(t, d, others[n], 1, noughts())
				reads(t, d, others[n], 4, bytesOf(4))
			}
		}
	}
}

// P8.4: one more than the greatest number, in whatever order the blocks were written, also if all of it is noughts.
func TestLen(t *testing.T) {
	d, f := New(), api.File{Kind: 2, X: -1, Z: -1}
	long(t, d, f, 0)
	for _, x := range [][2]int{{0, 1}, {5, 6}, {3, 6}, {0, 6}, {5, 6}, {4094, 4095}, {7, 4095}, {4095, 4096}, {0, 4096}} {
		writes(t, d, f, x[0], noughts(), api.OK)
		long(t, d, f, x[1])
		lists(t, "a file", d, f)
		d.Cut(0)
		long(t, d, f, x[1])
		long(t, d, api.File{Kind: 2}, 0)
		lists(t, "a file, the power out", d, f)
		d.Up()
	}
}

// P8.4: what is refused makes no file and no length.
func TestRefusedMakesNoFile(t *testing.T) {
	d, f := New(), api.File{Kind: 2}
	writes(t, d, f, -1, bytesOf(1), api.ErrArg)
	writes(t, d, f, 4096, bytesOf(1), api.ErrArg)
	writes(t, d, f, 4095, nil, api.ErrArg)
	d.Len(f)
	d.Cut(0)
	writes(t, d, f, 4095, bytesOf(1), api.ErrDown)
	lists(t, "refused", d)
	long(t, d, f, 0)
	d.Up()
	lists(t, "refused", d)
	long(t, d, f, 0)
	reads(t, d, f, 4095, noughts())
}

// R3: the list of files is the caller's own.
func TestFilesAreApart(t *testing.T) {
	d := New()
	writes(t, d, api.File{Kind: 1}, 0, bytesOf(1), api.OK)
	writes(t, d, api.File{Kind: 2}, 0, bytesOf(2), api.OK)
	one, two := d.Files(), d.Files()
	one[0], one[1] = api.File{Kind: 7}, api.File{Kind: 8}
	_ = append(one[:0], api.File{Kind: 9})
	if !slices.Equal(two, []api.File{{Kind: 1}, {Kind: 2}}) {
		t.Errorf("two of Files are one list: %v", two)
	}
	lists(t, "behind a change of what was told", d, api.File{Kind: 1}, api.File{Kind: 2})
	writes(t, d, api.File{Kind: 0}, 0, bytesOf(3), api.OK)
	if len(two) != 2 || two[0].Kind != 1 {
		t.Errorf("what Files has told changes with a later Write: %v", two)
	}
}

// R5: what is done to one disk is not to be seen on another one.
func TestTwoDisks(t *testing.T) {
	c, d, f := New(), New(), api.File{Kind: 2}
	if c == d {
		t.Fatal("two of New are one disk")
	}
	writes(t, c, f, 3, bytesOf(1), api.OK)
	writes(t, c, api.File{Kind: 1}, 3, bytesOf(1), api.OK)
	reads(t, d, f, 3, noughts())
	long(t, d, f, 0)
	lists(t, "the other disk", d)
	counts(t, "the other disk", d, 0)
	writes(t, d, f, 3, bytesOf(2), api.OK)
	reads(t, c, f, 3, bytesOf(1))
	c.Cut(1)
	staysOn(t, "the other disk", d)
	power(t, "this disk", c, true)
	c.Cut(0)
	power(t, "this disk", c, false)
	power(t, "the other disk", d, true)
	d.Up()
	power(t, "this disk", c, false)
	d.Cut(0)
	c.Up()
	power(t, "this disk", c, true)
	power(t, "the other disk", d, false)
	lists(t, "this disk", c, api.File{Kind: 1}, f)
}

// R1: none of the calls panics where there is no disk: it has no power and no file. The zero Disk is an empty one.
func TestNoDisk(t *testing.T) {
	var d *Disk
	f := api.File{Kind: 2}
	for range 2 {
		writes(t, d, f, 0, bytesOf(1), api.ErrDown)
		writes(t, d, f, -1, bytesOf(1), api.ErrArg)
		writes(t, d, f, 0, nil, api.ErrArg)
		refuses(t, d, f, 0, api.ErrDown)
		refuses(t, d, f, 4096, api.ErrArg)
		power(t, "no disk", d, false)
		counts(t, "no disk", d, 0)
		lists(t, "no disk", d)
		long(t, d, f, 0)
		d.Cut(1)
		d.Up()
	}
	var zero Disk
	power(t, "the zero Disk", &zero, true)
	reads(t, &zero, f, 0, noughts())
	lists(t, "the zero Disk", &zero)
	long(t, &zero, f, 0)
	writes(t, &zero, f, 0, bytesOf(1), api.OK)
	reads(t, &zero, f, 0, bytesOf(1))
	long(t, &zero, f, 1)
}

// plain is the chapter once more, with a list of all writes in their order and nothing else kept of them.
type plain struct {
	done []api.Put
	down bool
	cut  int // when so many are done the power goes out; 0: never
}

func (p *plain) write(f api.File, i int, b []byte) api.Errno {
	if i < 0 || i > 4095 || len(b) != 32 {
		return api.ErrArg
	}
	if p.down {
		return api.ErrDown
	}
	p.done = append(p.done, api.Put{F: f, I: i, B: bytes.Clone(b)})
	p.down = len(p.done) == p.cut
	return api.OK
}

func (p *plain) read(f api.File, i int) ([]byte, api.Errno) {
	if i < 0 || i > 4095 {
		return nil, api.ErrArg
	}
	if p.down {
		return nil, api.ErrDown
	}
	for n := len(p.done) - 1; n >= 0; n-- {
		if p.done[n].F == f && p.done[n].I == i {
			return p.done[n].B, api.OK
		}
	}
	return make([]byte, 32), api.OK
}

func (p *plain) setCut(n int) {
	p.cut = len(p.done) + n
	p.down = p.down || n < 1
}

func (p *plain) length(f api.File) int {
	most := 0
	for _, w := range p.done {
		if w.F == f {
			most = max(most, w.I+1)
		}
	}
	return most
}

// files are gathered one by one: each time the least of those that are greater than the last.
func (p *plain) files() []api.File {
	less := func(a, b api.File) bool {
		return a.Kind < b.Kind || a.Kind == b.Kind && (a.X < b.X || a.X == b.X && a.Z < b.Z)
	}
	var l []api.File
	for {
		var least *api.File
		for n := range p.done {
			f := &p.done[n].F
			if len(l) > 0 && !less(l[len(l)-1], *f) {
				continue
			}
			if least == nil || less(*f, *least) {
				least = f
			}
		}
		if least == nil {
			return l
		}
		l = append(l, *least)
	}
}

// P8.1 to P8.4: many calls one behind the other, held against the plain list.
func TestManyCalls(t *testing.T) {
	state := uint32(7)
	below := func(n int) int {
		state = state*1664525 + 1013904223
		return int(state>>8) % n
	}
	for range 20 {
		d, p := New(), &plain{}
		for step := range 400 {
			f := api.File{Kind: below(4) - 1, X: below(3) - 1, Z: below(3) - 1}
			i := []int{-1, 0, 1, 2, 40, 4094, 4095, 4096}[below(8)]
			switch below(12) {
			case 0:
				n := below(12) - 2
				d.Cut(n)
				p.setCut(n)
			case 1:
				d.Up()
				p.down, p.cut = false, 0
			case 2, 3, 4:
				got, e := d.Read(f, i)
				want, wanted := p.read(f, i)
				if e != wanted || !bytes.Equal(got, want) {
					t.Fatalf("step %d: Read(%v, %d): %x, error %d, not %x, %d", step, f, i, got, e, want, wanted)
				}
			default:
				b := bytesOf(below(1 << 20))[:32-below(8)/7]
				writes(t, d, f, i, b, p.write(f, i, b))
			}
			power(t, "many calls", d, !p.down)
			counts(t, "many calls", d, len(p.done))
			long(t, d, f, p.length(f))
			lists(t, "many calls", d, p.files()...)
			if t.Failed() {
				t.Fatalf("at step %d", step)
			}
		}
	}
}
