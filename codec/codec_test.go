package codec

import (
	"bytes"
	"encoding/binary"
	"math/rand"
	"runtime"
	"slices"
	"testing"

	"outcrop/api"
	"outcrop/chunk"
)

// widths are how many bits a place has, by how many kinds there are.
var widths = [18]int{1: 1, 2: 1, 3: 2, 4: 2, 5: 4, 6: 4, 7: 4, 8: 4, 9: 4, 10: 4, 11: 4, 12: 4, 13: 4, 14: 4, 15: 4, 16: 4, 17: 8}

// numbersOfKinds are those at which a width begins or ends.
var numbersOfKinds = []int{1, 2, 3, 4, 5, 16, 17}

// kindsFor are so many kinds, rising, with gaps wherever there is room for them.
func kindsFor(n int) []byte {
	kinds := make([]byte, n)
	for i := range kinds {
		kinds[i] = byte(17 - n + i)
		if n <= 8 {
			kinds[i] = byte(2*i + 1)
		}
	}
	return kinds
}

// scattered are cells of so many kinds, in no simple order, with runs of few cells.
func scattered(n int) []byte {
	kinds := kindsFor(n)
	cells := make([]byte, 32768)
	for i := range cells {
		cells[i] = kinds[(i*19+i/17*3+i/256*5)%n]
	}
	return cells
}

// layered are cells of so many kinds in great runs, the highest kind first.
func layered(n int) []byte {
	kinds := kindsFor(n)
	cells := make([]byte, 32768)
	for i := range cells {
		cells[i] = kinds[n-1-i*n/32768]
	}
	return cells
}

// ofRuns are cells in runs of these lengths, the kinds in turn.
func ofRuns(n int, lengths []int) []byte {
	kinds := kindsFor(n)
	var cells []byte
	for i, length := range lengths {
		cells = append(cells, bytes.Repeat(kinds[i%n:i%n+1], length)...)
	}
	return cells
}

// evenly is a whole in so many parts that differ by at most one.
func evenly(whole, parts int) []int {
	lengths := make([]int, parts)
	for i := range lengths {
		lengths[i] = whole*(i+1)/parts - whole*i/parts
	}
	return lengths
}

// chunkOf is the chunk of cells.
func chunkOf(t *testing.T, cells []byte) *chunk.Chunk {
	t.Helper()
	c, e := chunk.From(cells)
	if c == nil || e != api.OK {
		t.Fatalf("chunk.From of %d bytes: error %d", len(cells), e)
	}
	return c
}

// paletteIn are the kinds that cells have, rising.
func paletteIn(cells []byte) []byte {
	kinds := slices.Clone(cells)
	slices.Sort(kinds)
	return slices.Compact(kinds)
}

// asRuns is form 1, cell by cell from the chapter.
func asRuns(cells, kinds []byte) []byte {
	b := append([]byte{1, byte(len(kinds))}, kinds...)
	run := 0
	for i, k := range cells {
		run++
		if i+1 == len(cells) || cells[i+1] != k {
			b = binary.AppendUvarint(b, uint64(run))
			b = append(b, byte(bytes.IndexByte(kinds, k)))
			run = 0
		}
	}
	return b
}

// asPacked is form 2, bit by bit from the chapter.
func asPacked(cells, kinds []byte) []byte {
	b := append([]byte{2, byte(len(kinds))}, kinds...)
	w := widths[len(kinds)]
	body := make([]byte, 4096*w)
	for i, k := range cells {
		place := bytes.IndexByte(kinds, k)
		for bit := range w {
			if place>>bit&1 == 1 {
				body[(i*w+bit)/8] |= 1 << ((i*w + bit) % 8)
			}
		}
	}
	return append(b, body...)
}

// shortest is what Encode is to answer for cells.
func shortest(cells []byte) []byte {
	kinds := paletteIn(cells)
	one, two := asRuns(cells, kinds), asPacked(cells, kinds)
	if len(two) < len(one) {
		return two
	}
	return one
}

// tells is what Decode is to answer for bytes, from the chapter: cells, or what is amiss first.
func tells(b []byte) ([]byte, api.Errno) {
	if len(b) < 2 {
		return nil, api.ErrShort
	}
	form, n := b[0], int(b[1])
	if form != 1 && form != 2 || n < 1 || n > 17 {
		return nil, api.ErrForm
	}
	b = b[2:]
	if len(b) < n {
		return nil, api.ErrShort
	}
	kinds := b[:n]
	b = b[n:]
	for i, k := range kinds {
		if k > 16 || i > 0 && k <= kinds[i-1] {
			return nil, api.ErrForm
		}
	}
	cells, b, e := tellsCells(form, kinds, b)
	if e == api.OK && len(b) > 0 {
		e = api.ErrLong
	}
	if e != api.OK {
		return nil, e
	}
	return cells, api.OK
}

// tellsCells is the part of tells behind the palette: the cells, and what is left.
func tellsCells(form byte, kinds, b []byte) ([]byte, []byte, api.Errno) {
	var cells []byte
	w := widths[len(kinds)]
	if form == 2 && len(b) < 4096*w {
		return nil, nil, api.ErrShort
	}
	for form == 2 && len(cells) < 32768 {
		at := len(cells) * w
		place := int(b[at/8]) >> (at % 8) % (1 << w)
		if place >= len(kinds) {
			return nil, nil, api.ErrForm
		}
		cells = append(cells, kinds[place])
	}
	if form == 2 {
		return cells, b[4096*w:], api.OK
	}
	for len(cells) < 32768 {
		if len(b) == 0 {
			return nil, nil, api.ErrShort
		}
		run, size := binary.Uvarint(b[:min(5, len(b))])
		if size <= 0 || run == 0 || run > uint64(32768-len(cells)) {
			return nil, nil, api.ErrForm
		}
		if len(b) == size {
			return nil, nil, api.ErrShort
		}
		if int(b[size]) >= len(kinds) {
			return nil, nil, api.ErrForm
		}
		cells = append(cells, bytes.Repeat(kinds[b[size]:b[size]+1], int(run))...)
		b = b[size+1:]
	}
	return cells, b, api.OK
}

// brief is bytes as far as a message needs them.
func brief(b []byte) []byte { return b[:min(len(b), 24)] }

// decodes checks that bytes tell these cells.
func decodes(t *testing.T, what string, b, cells []byte) {
	t.Helper()
	c, e := Decode(b)
	if e != api.OK || c == nil {
		t.Errorf("%s: Decode(%x ..) answers error %d", what, brief(b), e)
		return
	}
	if !bytes.Equal(c.Bytes(), cells) {
		t.Errorf("%s: Decode(%x ..) answers other cells", what, brief(b))
	}
}

// fails checks that bytes tell no chunk, but that error.
func fails(t *testing.T, what string, b []byte, want api.Errno) {
	t.Helper()
	c, e := Decode(b)
	if e != want || c != nil {
		t.Errorf("%s: Decode(%x ..) of %d bytes answers error %d, not %d, a chunk: %v", what, brief(b), len(b), e, want, c != nil)
	}
}

// join are the parts one behind the other.
func join(parts ...[]byte) []byte { return bytes.Join(parts, nil) }

// P7.2: of no chunk there is nothing.
func TestEncodeOfNil(t *testing.T) {
	if b := Encode(nil); len(b) != 0 {
		t.Errorf("Encode(nil) is %x", b)
	}
	if b := Encode(chunk.Full(17)); len(b) != 0 {
		t.Errorf("Encode of a kind that is none is %x", b)
	}
}

// P7.1, P7.2: a chunk of one kind alone is one run, also of None.
func TestEncodeOfOneKind(t *testing.T) {
	if b := Encode(chunk.New()); string(b) != "\x01\x01\x00\x80\x80\x02\x00" {
		t.Errorf("Encode of New is %x", b)
	}
	for k := range 17 {
		b := Encode(chunk.Full(k))
		if want := []byte{1, 1, byte(k), 0x80, 0x80, 2, 0}; !bytes.Equal(b, want) {
			t.Errorf("kind %d: %x, not %x", k, b, want)
		}
		decodes(t, "one kind", b, bytes.Repeat([]byte{byte(k)}, 32768))
	}
}

// P7.1, P7.2: bytes that are written out by hand, in form 1 and in each width of form 2.
func TestEncodeByHand(t *testing.T) {
	c := chunk.New()
	c.Set(0, 16)
	c.Set(1, 5)
	c.Set(300, 5)
	if b := Encode(c); string(b) != "\x01\x03\x00\x05\x10\x01\x02\x01\x01\xaa\x02\x00\x01\x01\xd3\xfd\x01\x00" {
		t.Errorf("runs: %x", b)
	}
	for _, x := range []struct {
		n    int
		head string
		cell string
	}{
		{2, "\x02\x02\x01\x03", "\xaa"},
		{3, "\x02\x03\x01\x03\x05", "\x24"},
		{4, "\x02\x04\x01\x03\x05\x07", "\xe4"},
		{5, "\x02\x05\x01\x03\x05\x07\x09", "\x10\x32"},
		{16, "\x02\x10\x01\x02\x03\x04\x05\x06\x07\x08\x09\x0a\x0b\x0c\x0d\x0e\x0f\x10", "\x10\x32\x54\x76\x98\xba\xdc\xfe"},
		{17, "\x02\x11\x00\x01\x02\x03\x04\x05\x06\x07\x08\x09\x0a\x0b\x0c\x0d\x0e\x0f\x10", "\x00\x01\x02\x03\x04\x05\x06\x07\x08\x09\x0a\x0b\x0c\x0d\x0e\x0f\x10"},
	} {
		b := Encode(chunkOf(t, ofRuns(x.n, evenly(32768, 32768))))
		if !bytes.HasPrefix(b, []byte(x.head+x.cell)) {
			t.Errorf("%d kinds: %x, not %x", x.n, b[:min(len(b), len(x.head+x.cell))], x.head+x.cell)
		}
		if want := len(x.head) + 4096*widths[x.n]; len(b) != want {
			t.Errorf("%d kinds: %d bytes, not %d", x.n, len(b), want)
		}
	}
}

// P7.1, P7.2, P7.4: each number of kinds in either form, all bytes, and there and back.
func TestEncodeByKinds(t *testing.T) {
	for n := 1; n <= 17; n++ {
		for form, cells := range map[byte][]byte{1: layered(n), 2: scattered(n)} {
			if n == 1 {
				form = 1
			}
			b := Encode(chunkOf(t, cells))
			if !bytes.Equal(b, shortest(cells)) || b[0] != form {
				t.Errorf("%d kinds in form %d: %x .., not %x ..", n, form, brief(b), brief(shortest(cells)))
			}
			decodes(t, "there and back", b, cells)
		}
	}
}

// P7.2: form 1 where it has as many bytes as form 2, or one fewer; form 2 where form 1 has one more. A run of 150 has a byte more than a short one.
func TestEncodeAtTheBorderOfForms(t *testing.T) {
	for _, n := range []int{2, 3, 4, 5, 16, 17} {
		size := 4096 * widths[n]
		for _, x := range []struct {
			more    int
			form    byte
			lengths []int
		}{
			{-2, 1, evenly(32768, size/2-1)},
			{-1, 1, append([]int{150}, evenly(32768-150, size/2-2)...)},
			{0, 1, evenly(32768, size/2)},
			{1, 2, append([]int{150}, evenly(32768-150, size/2-1)...)},
			{2, 2, evenly(32768, size/2+1)},
		} {
			cells := ofRuns(n, x.lengths)
			if got := len(asRuns(cells, kindsFor(n))) - 2 - n; got != size+x.more {
				t.Fatalf("%d kinds: the test's runs have %d bytes, not %d", n, got, size+x.more)
			}
			b := Encode(chunkOf(t, cells))
			if len(b) == 0 || b[0] != x.form || !bytes.Equal(b, shortest(cells)) {
				t.Errorf("%d kinds, runs with %+d bytes: %x .., not in form %d", n, x.more, brief(b), x.form)
			}
			decodes(t, "at the border of forms", b, cells)
		}
	}
}

// P7.2: the kinds of the palette are those that cells have, wherever the one cell of a kind is.
func TestEncodeOfALoneCell(t *testing.T) {
	for _, i := range []int{0, 1, 127, 128, 255, 256, 16383, 16384, 32766, 32767} {
		for _, k := range []int{0, 1, 15, 16} {
			cells := bytes.Repeat([]byte{3}, 32768)
			cells[i] = byte(k)
			b := Encode(chunkOf(t, cells))
			if !bytes.Equal(b, shortest(cells)) {
				t.Errorf("kind %d at %d: %x ..", k, i, brief(b))
			}
			decodes(t, "a lone cell", b, cells)
		}
	}
}

// P7.4: at most 32788 bytes; all kinds, scattered, have the most.
func TestEncodeHasAtMost(t *testing.T) {
	for _, n := range numbersOfKinds {
		for _, cells := range [][]byte{scattered(n), layered(n), ofRuns(n, evenly(32768, 32768)), ofRuns(n, evenly(32768, 16384))} {
			if b := Encode(chunkOf(t, cells)); len(b) > api.MaxEncoded || len(b) > 32788 {
				t.Errorf("%d kinds: %d bytes", n, len(b))
			}
		}
	}
	if b := Encode(chunkOf(t, scattered(17))); len(b) != 2+17+32768 {
		t.Errorf("all kinds: %d bytes", len(b))
	}
}

// P7.3: what begins the bytes, as far as the kinds.
func TestDecodeOfHeads(t *testing.T) {
	for _, x := range []struct {
		what, b string
		want    api.Errno
	}{
		{"no bytes", "", api.ErrShort},
		{"one byte", "\x01", api.ErrShort},
		{"one byte", "\x02", api.ErrShort},
		{"one byte, no form", "\x00", api.ErrShort},
		{"one byte, no form", "\x03", api.ErrShort},
		{"form 0", "\x00\x01\x00\x80\x80\x02\x00", api.ErrForm},
		{"form 3", "\x03\x01\x00\x80\x80\x02\x00", api.ErrForm},
		{"form 255", "\xff\x01\x00\x80\x80\x02\x00", api.ErrForm},
		{"form 129", "\x81\x01\x00\x80\x80\x02\x00", api.ErrForm},
		{"no form and no kinds", "\x03\x01", api.ErrForm},
		{"n 0", "\x01\x00\x00\x80\x80\x02\x00", api.ErrForm},
		{"n 0 alone", "\x01\x00", api.ErrForm},
		{"n 0 alone", "\x02\x00", api.ErrForm},
		{"n 18", "\x01\x12\x00\x01\x02\x03\x04\x05\x06\x07\x08\x09\x0a\x0b\x0c\x0d\x0e\x0f\x10\x11\x80\x80\x02\x00", api.ErrForm},
		{"n 18 alone", "\x01\x12", api.ErrForm},
		{"n 18 alone", "\x02\x12", api.ErrForm},
		{"n 255 alone", "\x01\xff", api.ErrForm},
		{"n 17 alone", "\x01\x11", api.ErrShort},
		{"n 1 alone", "\x01\x01", api.ErrShort},
		{"n 1 alone", "\x02\x01", api.ErrShort},
		{"15 kinds of 17", "\x01\x11\x00\x01\x02\x03\x04\x05\x06\x07\x08\x09\x0a\x0b\x0c\x0d\x0e", api.ErrShort},
		{"16 kinds of 17", "\x01\x11\x00\x01\x02\x03\x04\x05\x06\x07\x08\x09\x0a\x0b\x0c\x0d\x0e\x0f", api.ErrShort},
		{"one kind of two", "\x02\x02\x00", api.ErrShort},
		{"fewer kinds than n, the same", "\x01\x03\x05\x05", api.ErrShort},
		{"fewer kinds than n, that fall", "\x01\x03\x05\x04", api.ErrShort},
		{"fewer kinds than n, above 16", "\x01\x02\x11", api.ErrShort},
		{"the same kinds", "\x01\x02\x05\x05", api.ErrForm},
		{"the same kinds", "\x01\x02\x05\x05\x80\x80\x02\x00", api.ErrForm},
		{"the same kinds", "\x01\x02\x00\x00\x80\x80\x02\x00", api.ErrForm},
		{"the same kinds, the last ones", "\x01\x03\x04\x05\x05\x80\x80\x02\x00", api.ErrForm},
		{"the same kinds, packed", "\x02\x02\x05\x05", api.ErrForm},
		{"kinds that fall", "\x01\x02\x05\x04\x80\x80\x02\x00", api.ErrForm},
		{"kinds that fall behind others", "\x01\x03\x01\x05\x03\x80\x80\x02\x00", api.ErrForm},
		{"a kind that falls to 0", "\x01\x02\x05\x00\x80\x80\x02\x00", api.ErrForm},
		{"kind 17", "\x01\x01\x11\x80\x80\x02\x00", api.ErrForm},
		{"kind 17 alone", "\x01\x01\x11", api.ErrForm},
		{"kind 17 alone, packed", "\x02\x01\x11", api.ErrForm},
		{"kind 17 behind 16", "\x01\x02\x10\x11\x80\x80\x02\x00", api.ErrForm},
		{"kind 128", "\x01\x01\x80\x80\x80\x02\x00", api.ErrForm},
		{"kind 255", "\x01\x01\xff\x80\x80\x02\x00", api.ErrForm},
		{"a packed chunk without cells", "\x02\x01\x03", api.ErrShort},
	} {
		fails(t, x.what, []byte(x.b), x.want)
	}
	head := []byte{1, 17, 0, 1, 2, 3, 4, 5, 6, 7, 8, 9, 10, 11, 12, 13, 14, 15, 16}
	decodes(t, "n 17", join(head, []byte("\x80\x80\x02\x10")), bytes.Repeat([]byte{16}, 32768))
}

// P7.3: runs that are amiss, alone and behind a good one.
func TestDecodeOfRuns(t *testing.T) {
	for _, x := range []struct {
		what, b string
		want    api.Errno
	}{
		{"no byte", "", api.ErrShort},
		{"no byte behind a run", "\xff\xff\x01\x00", api.ErrShort},
		{"no end of the number", "\x80", api.ErrForm},
		{"no end of the number", "\x80\x80\x80\x80\x80", api.ErrForm},
		{"a number of six groups", "\x81\x80\x80\x80\x80\x00\x00", api.ErrForm},
		{"a number above 2^31 - 1", "\x80\x80\x80\x80\x08\x00", api.ErrForm},
		{"a number above 2^31 - 1, with low bits that fit", "\x80\x80\x82\x80\x10\x00", api.ErrForm},
		{"no end behind a run", "\xff\xff\x01\x00\x81", api.ErrForm},
		{"0", "\x00\x00", api.ErrForm},
		{"0 in two groups", "\x80\x00\x00", api.ErrForm},
		{"0 and no place", "\x00", api.ErrForm},
		{"0 behind a run", "\xff\xff\x01\x00\x00\x00\x01\x00", api.ErrForm},
		{"one above the cells", "\x81\x80\x02\x00", api.ErrForm},
		{"one above the cells, and no place", "\x81\x80\x02", api.ErrForm},
		{"one above the cells that are lacking", "\xff\xff\x01\x00\x02\x00", api.ErrForm},
		{"one above the cells that are lacking, with a wrong place", "\xff\xff\x01\x00\x02\x09", api.ErrForm},
		{"the greatest number", "\xff\xff\xff\xff\x07\x00", api.ErrForm},
		{"no place", "\x80\x80\x02", api.ErrShort},
		{"no place", "\x05", api.ErrShort},
		{"no place behind a run", "\xff\xff\x01\x00\x01", api.ErrShort},
		{"a place n", "\x80\x80\x02\x03", api.ErrForm},
		{"a place n in a run that is not the last", "\x05\x03", api.ErrForm},
		{"a place n behind a run", "\xff\xff\x01\x00\x01\x03", api.ErrForm},
		{"a place n and bytes behind it", "\x80\x80\x02\x03\x00", api.ErrForm},
		{"a place 128", "\x80\x80\x02\x80", api.ErrForm},
		{"a place 255", "\x80\x80\x02\xff", api.ErrForm},
		{"a place that is a kind", "\x80\x80\x02\x05", api.ErrForm},
		{"a wrong place, then a number that is none", "\x05\x03\x80", api.ErrForm},
		{"one byte behind all", "\x80\x80\x02\x00\x00", api.ErrLong},
		{"one byte behind all, which is no number", "\x80\x80\x02\x00\x80", api.ErrLong},
		{"one byte behind two runs", "\xff\xff\x01\x00\x01\x02\x01", api.ErrLong},
		{"a run behind all", "\x80\x80\x02\x00\x01\x00", api.ErrLong},
	} {
		fails(t, x.what, []byte("\x01\x03\x01\x05\x09"+x.b), x.want)
	}
	for _, n := range numbersOfKinds {
		head := join([]byte{1, byte(n)}, kindsFor(n), []byte("\x80\x80\x02"))
		fails(t, "a place n", join(head, []byte{byte(n)}), api.ErrForm)
		decodes(t, "a place n - 1", join(head, []byte{byte(n - 1)}), bytes.Repeat(kindsFor(n)[n-1:], 32768))
	}
	fails(t, "many bytes behind all", join([]byte("\x01\x01\x00\x80\x80\x02\x00"), make([]byte, 1<<20)), api.ErrLong)
}

// P7.3: runs that Encode would not write: not the greatest, numbers of more groups, kinds that no cell has.
func TestDecodeOfRunsThatMayBe(t *testing.T) {
	full := bytes.Repeat([]byte{5}, 32768)
	for what, b := range map[string]string{
		"two runs of one kind": "\x01\x01\x05\xff\xff\x01\x00\x01\x00",
		"a first run of one":   "\x01\x01\x05\x01\x00\xff\xff\x01\x00",
		"four groups":          "\x01\x01\x05\x80\x80\x82\x00\x00",
		"five groups":          "\x01\x01\x05\x80\x80\x82\x80\x00\x00",
		"two groups for one":   "\x01\x01\x05\xff\xff\x01\x00\x81\x00\x00",
		"a lower kind more":    "\x01\x02\x04\x05\x80\x80\x02\x01",
		"a higher kind more":   "\x01\x02\x05\x10\x80\x80\x02\x00",
		"two kinds more":       "\x01\x03\x00\x05\x10\x80\x80\x02\x01",
	} {
		decodes(t, what, []byte(b), full)
	}
	cells := scattered(17)
	long := join([]byte{1, 17}, kindsFor(17))
	for _, k := range cells {
		long = append(long, 0x81, 0x80, 0x80, 0x80, 0x00, k)
	}
	decodes(t, "runs of one in five groups", long, cells)
	fails(t, "and one byte less", long[:len(long)-1], api.ErrShort)
	fails(t, "and one byte more", append(long, 0), api.ErrLong)
}

// P7.3: packed numbers of each width: whole, too short, with a place n, and too long.
func TestDecodeOfPackedNumbers(t *testing.T) {
	for _, n := range numbersOfKinds {
		cells := scattered(n)
		b := asPacked(cells, kindsFor(n))
		decodes(t, "packed", b, cells)
		fails(t, "one byte too few", b[:len(b)-1], api.ErrShort)
		fails(t, "no byte", b[:2+n], api.ErrShort)
		fails(t, "one byte more", append(slices.Clone(b), 0), api.ErrLong)
		fails(t, "many bytes more", append(slices.Clone(b), b...), api.ErrLong)
		w := widths[n]
		if n == 1<<w {
			continue // each number of w bits is a place
		}
		for _, i := range []int{0, 1, 7, 8, 20001, 32766, 32767} {
			for _, place := range []int{n, 1<<w - 1} {
				bad := slices.Clone(b)
				at := i * w
				bad[2+n+at/8] &^= byte((1<<w - 1) << (at % 8))
				bad[2+n+at/8] |= byte(place << (at % 8))
				fails(t, "a place n or more", bad, api.ErrForm)
				fails(t, "a place n or more, and a byte more", append(bad, 0), api.ErrForm)
				fails(t, "a place n or more, and too few bytes", bad[:len(b)-1], api.ErrShort)
			}
		}
	}
}

// P7.3: packed numbers that Encode would not write: kinds that no cell has, and cells that runs tell in fewer bytes.
func TestDecodeOfPackedNumbersThatMayBe(t *testing.T) {
	for n := 1; n <= 17; n++ {
		kinds := kindsFor(n)
		for place := range n {
			cells := bytes.Repeat(kinds[place:place+1], 32768)
			decodes(t, "one kind of many", asPacked(cells, kinds), cells)
		}
		decodes(t, "layers", asPacked(layered(n), kinds), layered(n))
		decodes(t, "layers in runs", asRuns(layered(n), kinds), layered(n))
		decodes(t, "scattered in runs", asRuns(scattered(n), kinds), scattered(n))
	}
}

// P7.3: each beginning of good bytes, and bytes with some of them changed, against the chapter told in another way.
func TestDecodeOfChangedBytes(t *testing.T) {
	chance := rand.New(rand.NewSource(7))
	var found [14]int
	compare := func(b []byte) {
		t.Helper()
		cells, e := tells(b)
		found[e]++
		if e == api.OK {
			decodes(t, "changed", b, cells)
		} else {
			fails(t, "changed", b, e)
		}
	}
	for _, n := range numbersOfKinds {
		good := asRuns(ofRuns(n, evenly(32768, 100)), kindsFor(n))
		for i := range good {
			compare(good[:i])
		}
		packed := asPacked(scattered(n), kindsFor(n))
		for range 300 {
			for _, b := range [][]byte{slices.Clone(good), slices.Clone(packed)} {
				for range 1 + chance.Intn(3) {
					b[chance.Intn(min(len(b), 40))] = byte(chance.Intn(256) >> chance.Intn(8))
				}
				compare(b)
			}
		}
	}
	for range 3000 {
		b := make([]byte, chance.Intn(40))
		for i := range b {
			b[i] = byte(chance.Intn(256) >> chance.Intn(8))
		}
		compare(b)
	}
	for _, e := range []api.Errno{api.OK, api.ErrLong, api.ErrShort, api.ErrForm} {
		if found[e] == 0 {
			t.Errorf("the test has no bytes with error %d", e)
		}
	}
}

// P7.4: Decode of Encode is the chunk, and is Encoded to the same bytes, for cells by chance with runs of all lengths.
func TestThereAndBack(t *testing.T) {
	chance := rand.New(rand.NewSource(11))
	for turn := range 60 {
		n := 1 + chance.Intn(17)
		kinds := chance.Perm(17)[:n]
		longest := 1 << (turn % 12)
		var cells []byte
		for len(cells) < 32768 {
			run := min(1+chance.Intn(longest), 32768-len(cells))
			cells = append(cells, bytes.Repeat([]byte{byte(kinds[chance.Intn(n)])}, run)...)
		}
		b := Encode(chunkOf(t, cells))
		if !bytes.Equal(b, shortest(cells)) {
			t.Errorf("turn %d: Encode is %x .., not %x ..", turn, brief(b), brief(shortest(cells)))
		}
		decodes(t, "there and back", b, cells)
		if c, _ := Decode(b); c != nil && !bytes.Equal(Encode(c), b) {
			t.Errorf("turn %d: Encode of Decode is another one", turn)
		}
	}
}

// R3: Encode leaves its chunk, and its bytes are the caller's own.
func TestEncodeShares(t *testing.T) {
	for _, n := range numbersOfKinds {
		for _, cells := range [][]byte{scattered(n), layered(n)} {
			c := chunkOf(t, cells)
			b := Encode(c)
			want := slices.Clone(b)
			if !bytes.Equal(c.Bytes(), cells) {
				t.Errorf("%d kinds: Encode has changed its chunk", n)
			}
			c.Fill(0, 127, 0)
			if !bytes.Equal(b, want) {
				t.Errorf("%d kinds: a change of the chunk shows in the bytes", n)
			}
			clear(b)
			if !bytes.Equal(c.Bytes(), make([]byte, 32768)) || !bytes.Equal(Encode(chunkOf(t, cells)), want) {
				t.Errorf("%d kinds: a change of the bytes shows", n)
			}
		}
	}
}

// R3: Decode leaves its bytes and the memory behind them, which may be changed later; each chunk is another one.
func TestDecodeShares(t *testing.T) {
	for _, n := range numbersOfKinds {
		for _, cells := range [][]byte{scattered(n), layered(n)} {
			good := shortest(cells)
			memory := append(slices.Clone(good), "behind it"...)
			b := memory[:len(good)]
			c, e := Decode(b)
			d, _ := Decode(b)
			if e != api.OK || c == nil || d == nil {
				t.Fatalf("%d kinds: error %d", n, e)
			}
			if !bytes.Equal(b, good) || string(memory[len(good):]) != "behind it" {
				t.Errorf("%d kinds: Decode has changed its bytes", n)
			}
			clear(memory)
			d.Fill(0, 127, 9)
			if !bytes.Equal(c.Bytes(), cells) {
				t.Errorf("%d kinds: a later change shows in the chunk", n)
			}
			c.Fill(0, 127, 16)
			if !bytes.Equal(memory, make([]byte, len(memory))) {
				t.Errorf("%d kinds: a change of the chunk shows in the bytes", n)
			}
		}
	}
	for _, bad := range []string{"\x01", "\x03\x01\x00", "\x01\x02\x05\x05\x00", "\x01\x01\x00\x80\x80\x02\x00\x00", "\x02\x01\x03"} {
		b := []byte(bad)
		Decode(b)
		if string(b) != bad {
			t.Errorf("Decode has changed %x to %x", bad, b)
		}
	}
}

// R5: what was asked before does not count, also not bytes that were given up.
func TestDecodeKeepsNothing(t *testing.T) {
	cells := scattered(5)
	good := shortest(cells)
	for _, bad := range [][]byte{nil, good[:100], append(slices.Clone(good), 1), []byte("\x01\x02\x05\x05\x00")} {
		Decode(bad)
		decodes(t, "behind bytes that were given up", good, cells)
		Encode(chunk.Full(3))
		decodes(t, "behind another chunk", good, cells)
	}
}

// Limits: a decoder gets by with DecodeCap bytes, whatever it is given. The least of some readings counts, since the test's own runtime takes memory too.
func TestDecodeTakesFewBytes(t *testing.T) {
	for _, b := range [][]byte{
		shortest(layered(17)),
		shortest(scattered(17)),
		asRuns(scattered(17), kindsFor(17)),
		join(shortest(layered(17)), make([]byte, 1<<20)),
		[]byte("\x01\x01\x00\xff\xff\xff\xff\x07\x00"),
	} {
		least := uint64(1 << 62)
		for range 8 {
			var before, after runtime.MemStats
			runtime.ReadMemStats(&before)
			Decode(b)
			runtime.ReadMemStats(&after)
			least = min(least, after.TotalAlloc-before.TotalAlloc)
		}
		if least > api.DecodeCap {
			t.Errorf("Decode(%x ..) of %d bytes takes %d bytes", brief(b), len(b), least)
		}
	}
}
