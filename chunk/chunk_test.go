package chunk

import (
	"bytes"
	"math"
	"slices"
	"testing"

	"outcrop/api"
)

// mixed are cells of all kinds from 0 to 16, in no simple order. Bytes of another turn differ at every place.
func mixed(turn int) []byte {
	b := make([]byte, 32768)
	for i := range b {
		b[i] = byte((i*7 + i/17*3 + i/256*5 + turn) % 17)
	}
	return b
}

// from is the chunk of bytes that make one.
func from(t *testing.T, b []byte) *Chunk {
	t.Helper()
	c, e := From(b)
	if c == nil || e != api.OK {
		t.Fatalf("From: %v, error %d", c != nil, e)
	}
	return c
}

// tops are the heights of all columns, counted from bytes.
func tops(b []byte) [256]int {
	var h [256]int
	for i := range h {
		h[i] = -1
	}
	for i, k := range b {
		if k != 0 && k != 16 {
			h[i%256] = i / 256
		}
	}
	return h
}

// tally is how many of each kind there are, counted from bytes.
func tally(b []byte) []int {
	n := make([]int, 17)
	for _, k := range b {
		n[k]++
	}
	return n
}

// holds checks all that a chunk tells of its cells against them.
func holds(t *testing.T, what string, c *Chunk, want []byte) {
	t.Helper()
	if c == nil {
		t.Fatalf("%s: no chunk", what)
	}
	if !bytes.Equal(c.Bytes(), want) {
		t.Errorf("%s: Bytes are others", what)
	}
	if got := c.Counts(); !slices.Equal(got, tally(want)) {
		t.Errorf("%s: Counts %v, not %v", what, got, tally(want))
	}
	for i, k := range want {
		if c.Get(i) != int(k) {
			t.Fatalf("%s: Get(%d): %d, not %d", what, i, c.Get(i), k)
		}
	}
	for i, y := range tops(want) {
		if got := c.Top(i%16, i/16); got != y {
			t.Fatalf("%s: Top(%d, %d): %d, not %d", what, i%16, i/16, got, y)
		}
	}
}

// P6.1: all cells of New are air, and each New is another chunk.
func TestNew(t *testing.T) {
	c, d := New(), New()
	holds(t, "New", c, make([]byte, 32768))
	if !c.Set(0, 5) || !c.Fill(100, 127, 6) {
		t.Error("New can't be changed")
	}
	holds(t, "New beside another one", d, make([]byte, 32768))
	holds(t, "New behind another one", New(), make([]byte, 32768))
}

// P6.1: Full of each kind, None with them.
func TestFull(t *testing.T) {
	for k := 0; k <= 16; k++ {
		holds(t, "Full", Full(k), bytes.Repeat([]byte{byte(k)}, 32768))
	}
	c, d := Full(3), Full(3)
	c.Set(9, 4)
	if d.Get(9) != 3 || Full(3).Get(9) != 3 {
		t.Error("two of Full are one")
	}
}

// wrongKinds are no kinds of a cell; the lowest bits of some are those of one.
func wrongKinds() []int {
	return []int{
		-1, -2, -16, -17, -255, -256, 17, 18, 31, 32, 255, 256, 257, 272, 1 << 16, 1<<32 + 3, 1<<62 + 16,
		math.MinInt32, math.MaxInt32, math.MinInt, math.MinInt + 1, math.MinInt + 3, math.MaxInt,
	}
}

// P6.1, R1: Full of no kind.
func TestFullOfNoKind(t *testing.T) {
	for _, k := range wrongKinds() {
		if Full(k) != nil {
			t.Errorf("Full(%d) is a chunk", k)
		}
	}
}

// P6.1: the cells of From are the bytes in their order, None with them.
func TestFrom(t *testing.T) {
	for turn := range 17 {
		holds(t, "From", from(t, mixed(turn)), mixed(turn))
	}
	for _, i := range []int{0, 1, 15, 16, 255, 256, 32767} {
		b := make([]byte, 32768)
		b[i] = 16
		holds(t, "From with one of 16", from(t, b), b)
	}
	long := append(mixed(2), mixed(3)...)
	holds(t, "From a part of more bytes", from(t, long[100:100+32768]), long[100:100+32768])
	holds(t, "From with room behind", from(t, long[:32768]), long[:32768])
}

// P6.1, R2, P1: bytes that make no chunk. How many they are is told ahead of a wrong kind, and there is no chunk beside an error.
func TestFromWrong(t *testing.T) {
	with := func(many, at int, k byte) []byte {
		b := make([]byte, many)
		b[at] = k
		return b
	}
	for _, w := range []struct {
		name string
		b    []byte
		e    api.Errno
	}{
		{"nil", nil, api.ErrShort},
		{"no bytes", []byte{}, api.ErrShort},
		{"one byte", []byte{1}, api.ErrShort},
		{"one too few", make([]byte, 32767), api.ErrShort},
		{"one too few, with room", make([]byte, 32767, 40000), api.ErrShort},
		{"one too many", make([]byte, 32769), api.ErrLong},
		{"twice as many", make([]byte, 65536), api.ErrLong},
		{"17 at the first", with(32768, 0, 17), api.ErrKind},
		{"17 at the last", with(32768, 32767, 17), api.ErrKind},
		{"17 in the midst", with(32768, 20000, 17), api.ErrKind},
		{"32", with(32768, 5, 32), api.ErrKind},
		{"128", with(32768, 5, 128), api.ErrKind},
		{"255", with(32768, 5, 255), api.ErrKind},
		{"one byte of no kind", []byte{17}, api.ErrShort},
		{"too few and 17", with(32767, 0, 17), api.ErrShort},
		{"too few and 255", with(32767, 32766, 255), api.ErrShort},
		{"too many and 17", with(32769, 0, 17), api.ErrLong},
		{"too many and 17 beyond", with(32769, 32768, 17), api.ErrLong},
	} {
		if c, e := From(w.b); c != nil || e != w.e {
			t.Errorf("From, %s: chunk %v, error %d, not %d", w.name, c != nil, e, w.e)
		}
	}
}

// R3: From leaves the bytes as they are, and the chunk stays when they change; what is done to the chunk is not done to them.
func TestFromIsItsOwn(t *testing.T) {
	b := mixed(0)
	c := from(t, b)
	if !bytes.Equal(b, mixed(0)) {
		t.Error("From changed what came in")
	}
	for i := range b {
		b[i] = 200
	}
	holds(t, "From, the bytes changed", c, mixed(0))
	b = mixed(1)
	c = from(t, b)
	c.Fill(0, 127, 9)
	if !bytes.Equal(b, mixed(1)) {
		t.Error("Fill changed the bytes that came in")
	}
}

// wrongPlaces are no places; the lowest bits of some are those of one.
func wrongPlaces() []int {
	return []int{
		-1, -2, -256, -32767, -32768, -32769, 32768, 32769, 65535, 65536, 1 << 31, 1 << 32, 1<<32 + 5, 1 << 62,
		math.MinInt32, math.MaxInt32, math.MinInt, math.MinInt + 1, math.MinInt + 32767, math.MaxInt, math.MaxInt - 1,
	}
}

// P6.2: Get at the ends, and where there is no place.
func TestGet(t *testing.T) {
	c := from(t, mixed(4))
	for _, i := range []int{0, 1, 255, 256, 32766, 32767} {
		if got := c.Get(i); got != int(mixed(4)[i]) {
			t.Errorf("Get(%d): %d, not %d", i, got, mixed(4)[i])
		}
	}
	for _, i := range wrongPlaces() {
		if got := c.Get(i); got != -1 {
			t.Errorf("Get(%d): %d, not -1", i, got)
		}
	}
	holds(t, "behind Get", c, mixed(4))
}

// P6.2: Set changes one place alone, to each kind from 0 to 16.
func TestSet(t *testing.T) {
	for _, i := range []int{0, 1, 15, 16, 255, 256, 16384, 32767} {
		c, want := from(t, mixed(i)), mixed(i)
		for k := 0; k <= 16; k++ {
			if !c.Set(i, k) {
				t.Errorf("Set(%d, %d): false", i, k)
			}
			want[i] = byte(k)
			holds(t, "behind Set", c, want)
			if !c.Set(i, k) {
				t.Errorf("Set(%d, %d), once more: false", i, k)
			}
		}
		holds(t, "behind Set once more", c, want)
	}
}

// P6.2, R1: Set where there is no place or of no kind is false and does nothing.
func TestSetWrong(t *testing.T) {
	c := from(t, mixed(5))
	for _, i := range wrongPlaces() {
		for _, k := range append(wrongKinds(), 0, 1, 15, 16) {
			if c.Set(i, k) {
				t.Errorf("Set(%d, %d): true", i, k)
			}
		}
	}
	for _, i := range []int{0, 1, 255, 256, 32767} {
		for _, k := range wrongKinds() {
			if c.Set(i, k) {
				t.Errorf("Set(%d, %d): true", i, k)
			}
		}
	}
	holds(t, "behind a wrong Set", c, mixed(5))
}

// P6.2: Fill changes the layers from low to high, both with it, and no other one.
func TestFill(t *testing.T) {
	for _, f := range [][3]int{
		{0, 0, 1}, {0, 1, 2}, {1, 1, 16}, {64, 64, 0}, {5, 100, 7}, {126, 127, 15},
		{127, 127, 13}, {0, 127, 16}, {0, 127, 0}, {1, 126, 4}, {0, 126, 3}, {1, 127, 8},
	} {
		c, want := from(t, mixed(6)), mixed(6)
		if !c.Fill(f[0], f[1], f[2]) {
			t.Errorf("Fill%v: false", f)
		}
		for i := range want {
			if i/256 >= f[0] && i/256 <= f[1] {
				want[i] = byte(f[2])
			}
		}
		holds(t, "behind Fill", c, want)
	}
	c := New()
	for k := 0; k <= 16; k++ {
		if !c.Fill(k, k, k) {
			t.Errorf("Fill(%d, %d, %d): false", k, k, k)
		}
	}
	for y := range 128 {
		want := y
		if y > 16 {
			want = 0
		}
		if c.Get(y*256) != want || c.Get(y*256+255) != want {
			t.Errorf("layer %d: %d and %d, not %d", y, c.Get(y*256), c.Get(y*256+255), want)
		}
	}
}

// P6.2, R1: Fill of layers that are none or of no kind is false and does nothing.
func TestFillWrong(t *testing.T) {
	c := from(t, mixed(7))
	for _, l := range [][2]int{
		{-1, -1}, {-1, 0}, {-1, 5}, {-1, 127}, {-1, 128}, {0, 128}, {5, 128}, {127, 128}, {128, 128}, {128, 129},
		{1, 0}, {5, 4}, {127, 0}, {127, 126}, {0, -1}, {128, 127}, {128, 0}, {-2, -1},
		{math.MinInt, math.MaxInt}, {math.MinInt, 0}, {0, math.MinInt}, {math.MinInt, math.MinInt},
		{0, math.MaxInt}, {math.MaxInt, math.MaxInt}, {math.MaxInt, 0}, {math.MaxInt, math.MinInt},
		{1 << 56, 1 << 56}, {1 << 32, 1<<32 + 1}, {0, 1 << 56}, {-1 << 56, 0}, {256, 256}, {0, 255},
	} {
		for _, k := range append(wrongKinds(), 0, 1, 15, 16) {
			if c.Fill(l[0], l[1], k) {
				t.Errorf("Fill(%d, %d, %d): true", l[0], l[1], k)
			}
		}
	}
	for _, l := range [][2]int{{0, 0}, {0, 127}, {127, 127}, {3, 90}} {
		for _, k := range wrongKinds() {
			if c.Fill(l[0], l[1], k) {
				t.Errorf("Fill(%d, %d, %d): true", l[0], l[1], k)
			}
		}
	}
	holds(t, "behind a wrong Fill", c, mixed(7))
}

// P6.3: a column of air and None alone has no top, whatever stands beside it.
func TestTopOfNothing(t *testing.T) {
	for _, k := range []int{0, 16} {
		if got := Full(k).Top(3, 4); got != -1 {
			t.Errorf("Top in a chunk of %d: %d", k, got)
		}
	}
	c := Full(1)
	for y := range 128 {
		c.Set(y*256+4*16+3, y%2*16)
	}
	for z := range 16 {
		for x := range 16 {
			want := 127
			if x == 3 && z == 4 {
				want = -1
			}
			if got := c.Top(x, z); got != want {
				t.Errorf("Top(%d, %d): %d, not %d", x, z, got, want)
			}
		}
	}
}

// P6.3: Top is the greatest y, of each kind from 1 to 15, under air and None, over whatever lies below; full columns with it.
func TestTop(t *testing.T) {
	for k := 1; k <= 15; k++ {
		if got := Full(k).Top(0, 0); got != 127 {
			t.Errorf("Top in a chunk of %d: %d", k, got)
		}
		for _, y := range []int{0, 1, 63, 126, 127} {
			for _, over := range []int{0, 16} {
				c := Full(over)
				c.Set(y*256+9*16+14, k)
				c.Set(y/2*256+9*16+14, k)
				if got := c.Top(14, 9); got != y {
					t.Errorf("Top of %d under %d: %d, not %d", k, over, got, y)
				}
				if got := c.Top(9, 14); got != -1 {
					t.Errorf("Top with x and z the other way: %d", got)
				}
			}
		}
	}
}

// P6.3, R1: x and z are from 0 to 15.
func TestTopWrong(t *testing.T) {
	c := Full(1)
	wrong := []int{-1, -2, -15, -16, 16, 17, 31, 255, 256, 1 << 32, 1 << 60, math.MinInt, math.MinInt + 1, math.MaxInt}
	right := []int{0, 1, 14, 15}
	for _, w := range wrong {
		for _, v := range append(wrong, right...) {
			if c.Top(w, v) != -1 || c.Top(v, w) != -1 {
				t.Errorf("Top(%d, %d) and the other way: %d, %d", w, v, c.Top(w, v), c.Top(v, w))
			}
		}
	}
	for _, x := range right {
		for _, z := range right {
			if got := c.Top(x, z); got != 127 {
				t.Errorf("Top(%d, %d): %d", x, z, got)
			}
		}
	}
}

// P6.3, R3: Counts has 17 numbers, which are the caller's own.
func TestCounts(t *testing.T) {
	c := Full(16)
	n := c.Counts()
	if len(n) != 17 || n[16] != 32768 {
		t.Errorf("Counts: %v", n)
	}
	n[16], n[0] = 5, 6
	if again := c.Counts(); again[16] != 32768 || again[0] != 0 {
		t.Errorf("Counts, what was told changed: %v", again)
	}
}

// P6.3, R3: what Bytes told may be changed and the chunk stays, and the other way round.
func TestBytesAreTheCallers(t *testing.T) {
	c := from(t, mixed(8))
	b, d := c.Bytes(), c.Bytes()
	for i := range b {
		b[i] = 99
	}
	if !bytes.Equal(d, mixed(8)) {
		t.Error("two of Bytes are one")
	}
	holds(t, "what Bytes told changed", c, mixed(8))
	c.Fill(0, 127, 2)
	c.Set(0, 3)
	if !bytes.Equal(d, mixed(8)) {
		t.Error("what Bytes told changed with the chunk")
	}
	_ = append(d[:10], 77, 77)
	if c.Get(10) != 2 {
		t.Error("an append to Bytes reached the chunk")
	}
}

// P6.3, P6.4, R3: a copy has the same cells, and what is done to either is not done to the other one.
func TestCopy(t *testing.T) {
	c := from(t, mixed(9))
	d := c.Copy()
	if c == d {
		t.Fatal("the copy is the chunk itself")
	}
	holds(t, "a copy", d, mixed(9))
	d.Fill(0, 63, 1)
	d.Set(32767, 2)
	holds(t, "the chunk, its copy changed", c, mixed(9))
	d = c.Copy()
	e := d.Copy()
	c.Fill(64, 127, 3)
	c.Set(0, 4)
	holds(t, "a copy, its chunk changed", d, mixed(9))
	d.Fill(0, 127, 0)
	holds(t, "a copy's copy", e, mixed(9))
}

// P6.3: Diff of nil, of the chunk itself, of one that is alike.
func TestDiffOfNone(t *testing.T) {
	for _, c := range []*Chunk{New(), Full(16), from(t, mixed(10))} {
		for name, d := range map[string]*Chunk{"nil": nil, "itself": c, "a copy": c.Copy()} {
			if l := c.Diff(d); len(l) != 0 {
				t.Errorf("Diff of %s: %d places", name, len(l))
			}
		}
		if l := c.Copy().Diff(c); len(l) != 0 {
			t.Errorf("Diff of what was copied: %d places", len(l))
		}
	}
}

// P6.3, P6.4: chunks that differ at the first place, the last one and some between; the places rise, and both ways round tell the same ones.
func TestDiffPlaces(t *testing.T) {
	for _, places := range [][]int{
		{0}, {32767}, {0, 32767}, {0, 1}, {32766, 32767}, {255, 256}, {5, 300, 301, 20000, 32767},
	} {
		c := from(t, mixed(11))
		d := c.Copy()
		for _, i := range places {
			d.Set(i, (c.Get(i)+1)%17)
		}
		before := d.Bytes()
		if got := c.Diff(d); !slices.Equal(got, places) {
			t.Errorf("Diff: %v, not %v", got, places)
		}
		if got := d.Diff(c); !slices.Equal(got, places) {
			t.Errorf("Diff the other way round: %v, not %v", got, places)
		}
		holds(t, "behind Diff", c, mixed(11))
		holds(t, "what was handed to Diff", d, before)
	}
}

// P6.3: air and None are not alike, and all places may differ.
func TestDiffOfAll(t *testing.T) {
	for _, l := range [][]int{
		New().Diff(Full(16)), Full(16).Diff(New()), from(t, mixed(0)).Diff(from(t, mixed(1))),
	} {
		if len(l) != 32768 {
			t.Fatalf("Diff: %d places", len(l))
		}
		for i, p := range l {
			if p != i {
				t.Fatalf("Diff: place %d is told at %d", p, i)
			}
		}
	}
	c, d := from(t, mixed(0)), from(t, mixed(1))
	l := c.Diff(d)
	l[0] = -1
	if c.Diff(d)[0] != 0 {
		t.Error("two of Diff are one list")
	}
}

// P6.4: From of Bytes is the chunk.
func TestFromOfBytes(t *testing.T) {
	for turn := range 17 {
		c := from(t, mixed(turn))
		c.Fill(turn, turn+20, turn)
		d := from(t, c.Bytes())
		if c == d || *c != *d || len(c.Diff(d)) != 0 {
			t.Errorf("From of Bytes, turn %d: %d places are others", turn, len(c.Diff(d)))
		}
		holds(t, "From of Bytes", d, c.Bytes())
	}
}

// P6.2 to P6.4: many calls one behind the other, held against plain bytes on which the same was done.
func TestManyCalls(t *testing.T) {
	state := uint32(1)
	below := func(n int) int {
		state = state*1664525 + 1013904223
		return int(state>>8) % n
	}
	c, want := New(), make([]byte, 32768)
	old, oldWant := c.Copy(), slices.Clone(want)
	for step := range 20000 {
		k := below(19) - 1
		known := k >= 0 && k <= 16
		if below(50) > 0 {
			i := below(32800) - 16
			may := known && i >= 0 && i <= 32767
			if c.Set(i, k) != may {
				t.Fatalf("Set(%d, %d): not %v", i, k, may)
			}
			if may {
				want[i] = byte(k)
			}
		} else {
			low := below(132) - 2
			high := low + below(6) - 2
			may := known && low >= 0 && high <= 127 && low <= high
			if c.Fill(low, high, k) != may {
				t.Fatalf("Fill(%d, %d, %d): not %v", low, high, k, may)
			}
			if may {
				for i := low * 256; i < high*256+256; i++ {
					want[i] = byte(k)
				}
			}
		}
		if step%2000 == 1999 {
			holds(t, "many calls", c, want)
			holds(t, "an older copy", old, oldWant)
			var places []int
			for i := range want {
				if want[i] != oldWant[i] {
					places = append(places, i)
				}
			}
			if !slices.Equal(c.Diff(old), places) || !slices.Equal(old.Diff(c), places) {
				t.Errorf("Diff: %d and %d places, not %d", len(c.Diff(old)), len(old.Diff(c)), len(places))
			}
			old, oldWant = c.Copy(), slices.Clone(want)
		}
	}
}

// The chapter's examples.
func TestExamples(t *testing.T) {
	if Full(17) != nil {
		t.Error("Full(17) is a chunk")
	}
	if c, e := From([]byte{1}); c != nil || e != api.ErrShort {
		t.Errorf("From of one byte: chunk %v, error %d", c != nil, e)
	}
	c := New()
	if !c.Set(256, 3) || c.Get(256) != 3 || c.Top(0, 0) != 1 {
		t.Errorf("behind Set(256, 3): Get %d, Top %d", c.Get(256), c.Top(0, 0))
	}
	want := make([]int, 17)
	want[0], want[3] = 32767, 1
	if !slices.Equal(c.Counts(), want) {
		t.Errorf("behind Set(256, 3): Counts %v", c.Counts())
	}
	if !c.Fill(0, 1, 1) || c.Top(5, 5) != 1 {
		t.Errorf("behind Fill(0, 1, 1): Top %d", c.Top(5, 5))
	}
}

// R1: Full tells no chunk without an error, and none of the calls panics on it: it has no place, no block and nothing that differs.
func TestNoChunk(t *testing.T) {
	c := Full(17)
	if c.Get(0) != -1 || c.Set(0, 1) || c.Fill(0, 1, 1) || c.Top(0, 0) != -1 {
		t.Error("no chunk has cells")
	}
	for k, n := range c.Counts() {
		if n != 0 {
			t.Errorf("no chunk has %d of kind %d", n, k)
		}
	}
	if len(c.Bytes()) != 0 || c.Copy() != nil || len(c.Diff(New())) != 0 || len(c.Diff(nil)) != 0 {
		t.Error("no chunk has bytes, a copy or a place that differs")
	}
}
