package relight

import (
	"math"
	"math/rand"
	"slices"
	"testing"

	"outcrop/api"
	"outcrop/chunk"
	flood "outcrop/light"
	"outcrop/num"
)

// table is what chapter 5 says of each kind, and chapter 18 of None at the end, told apart from the program.
var table = [17]struct {
	shut, clear bool
	loss, emits int
}{
	0:  {clear: true, loss: 1},
	1:  {shut: true},
	2:  {shut: true},
	3:  {shut: true},
	4:  {shut: true},
	5:  {loss: 3},
	6:  {shut: true},
	7:  {shut: true},
	8:  {shut: true},
	9:  {shut: true, emits: 3},
	10: {shut: true},
	11: {loss: 2},
	12: {shut: true},
	13: {loss: 1, emits: 14},
	14: {clear: true, loss: 1},
	15: {shut: true},
	16: {shut: true},
}

// land is what a field should be: its sides and the kinds of its cells.
type land struct {
	wide, deep, tall int
	k                []byte
}

// full is a land of one kind.
func full(wide, deep, tall, k int) land {
	return land{wide, deep, tall, slices.Repeat([]byte{byte(k)}, wide*deep*tall)}
}

// mixed is a land of a kind, of which so many cells of a hundred are of kinds out of a list.
func mixed(r *rand.Rand, wide, deep, tall, ground, percent int, kinds ...int) land {
	l := full(wide, deep, tall, ground)
	for i := range l.k {
		if r.Intn(100) < percent {
			l.k[i] = byte(kinds[r.Intn(len(kinds))])
		}
	}
	return l
}

// place is where the cell x, y, z is.
func (l land) place(x, y, z int) int { return (y*l.deep+z)*l.wide + x }

// copy is another land with the same cells.
func (l land) copy() land {
	l.k = slices.Clone(l.k)
	return l
}

// everyKind are the kinds from 0 to 16.
func everyKind() []int {
	var l []int
	for k := range 17 {
		l = append(l, k)
	}
	return l
}

// shines is what each cell has of its own: of the sky, or of lamps.
func (l land) shines(sky bool) []byte {
	own := make([]byte, len(l.k))
	for x := range l.wide {
		for z := range l.deep {
			clear := true
			for y := l.tall - 1; y >= 0; y-- {
				i := l.place(x, y, z)
				clear = clear && table[l.k[i]].clear
				switch {
				case !sky:
					own[i] = byte(table[l.k[i]].emits)
				case clear:
					own[i] = 15
				}
			}
		}
	}
	return own
}

// ruled is what light is by the chapter's words: from nought on, each cell is given what its own kind and its neighbours make it, over and over, till nothing changes, so that the numbers are the least ones.
func (l land) ruled(sky bool) []byte {
	own := l.shines(sky)
	levels := make([]byte, len(l.k))
	for changed := true; changed; {
		changed = false
		for _, backwards := range []bool{false, true} {
			for i := range levels {
				if backwards {
					i = len(levels) - 1 - i
				}
				if level := l.made(i, int(own[i]), levels); level != levels[i] {
					levels[i], changed = level, true
				}
			}
		}
	}
	return levels
}

// made is what a cell's own light and its neighbours make it.
func (l land) made(i, own int, levels []byte) byte {
	of := table[l.k[i]]
	if of.shut {
		return byte(own)
	}
	x, z, y := i%l.wide, i/l.wide%l.deep, i/l.wide/l.deep
	var best byte
	if x > 0 {
		best = max(best, levels[l.place(x-1, y, z)])
	}
	if x < l.wide-1 {
		best = max(best, levels[l.place(x+1, y, z)])
	}
	if z > 0 {
		best = max(best, levels[l.place(x, y, z-1)])
	}
	if z < l.deep-1 {
		best = max(best, levels[l.place(x, y, z+1)])
	}
	if y > 0 {
		best = max(best, levels[l.place(x, y-1, z)])
	}
	if y < l.tall-1 {
		best = max(best, levels[l.place(x, y+1, z)])
	}
	return byte(max(own, int(best)-of.loss))
}

// made is a field of New, of a land that may be. What is handed in is to stay as it was.
func made(t *testing.T, l land) *Field {
	t.Helper()
	kept := slices.Clone(l.k)
	f, e := New(l.wide, l.deep, l.tall, l.k)
	if e != api.OK || f == nil {
		t.Fatalf("New(%d, %d, %d) of %d cells: %d", l.wide, l.deep, l.tall, len(l.k), e)
	}
	if !slices.Equal(l.k, kept) {
		t.Fatal("New changes the cells that are handed in")
	}
	return f
}

// set is a Set that is accepted, told to the land too.
func (l land) set(t *testing.T, f *Field, i, k int) {
	t.Helper()
	if e := f.Set(i, k); e != api.OK {
		t.Fatalf("Set(%d, %d): %d", i, k, e)
	}
	l.k[i] = byte(k)
}

// same holds numbers of all cells against what they should be.
func (l land) same(t *testing.T, name string, got, want []byte, what ...any) {
	t.Helper()
	if len(got) != len(want) {
		t.Fatalf("%v: %s of %d cells, not of %d", what, name, len(got), len(want))
	}
	for i := range got {
		if got[i] != want[i] {
			x, z, y := i%l.wide, i/l.wide%l.deep, i/l.wide/l.deep
			t.Fatalf("%v: in a field of %d %d %d, %s of the cell %d %d %d (place %d), where %d stands: %d, not %d", what, l.wide, l.deep, l.tall, name, x, y, z, i, l.k[i], got[i], want[i])
		}
	}
}

// hold holds all that a field tells against the rule.
func (l land) hold(t *testing.T, f *Field, what ...any) {
	t.Helper()
	l.same(t, "kinds", f.Kinds(), l.k, what...)
	l.same(t, "sky", f.Sky(), l.ruled(true), what...)
	l.same(t, "lamp", f.Lamp(), l.ruled(false), what...)
}

// told is all that a field tells.
type told struct{ kinds, sky, lamp []byte }

func tells(f *Field) told { return told{f.Kinds(), f.Sky(), f.Lamp()} }

// is tells whether two fields have told the same.
func (a told) is(b told) bool {
	return slices.Equal(a.kinds, b.kinds) && slices.Equal(a.sky, b.sky) && slices.Equal(a.lamp, b.lamp)
}

// expect holds what a list has against numbers.
func expect(t *testing.T, what string, got []byte, want ...byte) {
	t.Helper()
	if !slices.Equal(got, want) {
		t.Errorf("%s: %v, not %v", what, got, want)
	}
}

// refused holds that New has answered that error, and nothing else.
func refused(t *testing.T, wide, deep, tall int, k []byte, want api.Errno) {
	t.Helper()
	kept := slices.Clone(k)
	if f, e := New(wide, deep, tall, k); e != want || f != nil {
		t.Errorf("New(%d, %d, %d) of %d cells: %v, %d, not %d", wide, deep, tall, len(k), f != nil, e, want)
	}
	if !slices.Equal(k, kept) {
		t.Error("New changes the cells that it refuses")
	}
}

// P19.1, P19.2, P19.3: the chapter's examples.
func TestExamples(t *testing.T) {
	f := made(t, land{3, 1, 1, []byte{0, 0, 0}})
	if e := f.Set(1, 13); e != api.OK {
		t.Fatal(e)
	}
	expect(t, "a lamp in the middle", f.Lamp(), 13, 14, 13)
	if e := f.Set(0, 1); e != api.OK {
		t.Fatal(e)
	}
	expect(t, "stone beside it", f.Lamp(), 0, 14, 13)
	if e := f.Set(1, 0); e != api.OK {
		t.Fatal(e)
	}
	expect(t, "no lamp", f.Lamp(), 0, 0, 0)
	expect(t, "the sky beside stone", f.Sky(), 0, 15, 15)
	expect(t, "the kinds", f.Kinds(), 1, 0, 0)
}

// P19.1: each of the three sides is from 1 to 32, whatever the others are, also where there are as many cells as the three make.
func TestNewSides(t *testing.T) {
	for _, others := range [][2]int{{1, 1}, {2, 3}, {32, 32}, {32, 1}, {1, 32}} {
		for _, side := range []int{-33, -32, -2, -1, 0, 1, 2, 31, 32, 33, 34, 64} {
			many := side * others[0] * others[1]
			for _, sides := range [][3]int{
				{side, others[0], others[1]}, {others[0], side, others[1]}, {others[0], others[1], side},
			} {
				cells := make([]byte, max(many, -many))
				if side < 1 || side > 32 {
					refused(t, sides[0], sides[1], sides[2], cells, api.ErrArg)
					refused(t, sides[0], sides[1], sides[2], nil, api.ErrArg)
					continue
				}
				l := land{sides[0], sides[1], sides[2], cells}
				if got := made(t, l).Kinds(); !slices.Equal(got, cells) {
					t.Errorf("of the sides %v there are %d cells, not %d", sides, len(got), len(cells))
				}
			}
		}
	}
}

// P19.1: two and three sides that are wrong, also where they make a number that may be.
func TestNewOfMoreWrongSides(t *testing.T) {
	for _, sides := range [][3]int{
		{0, 0, 0}, {-1, -1, 1}, {-1, 1, -1}, {1, -1, -1}, {-2, -3, 4}, {-1, -1, -1}, {33, 33, 33}, {64, 1, 0}, {-32, -32, 32}, {40, 40, 1}, {0, 33, -1},
	} {
		many := sides[0] * sides[1] * sides[2]
		refused(t, sides[0], sides[1], sides[2], make([]byte, max(many, -many)), api.ErrArg)
	}
}

// P1, P19.1: sides of any size end with ErrArg, also where their product goes round to as many cells as there are.
func TestNewOfGreatSides(t *testing.T) {
	ends := []int{math.MinInt, math.MinInt + 1, -1 << 32, -1, 0, 1, 8, 33, 1 << 32, 1 << 61, 1<<61 + 1, 1 << 62, math.MaxInt}
	for _, a := range ends {
		for _, b := range ends {
			for _, c := range ends {
				if min(a, b, c) >= 1 && max(a, b, c) <= 32 {
					continue
				}
				many := a * b * c
				if many < 0 || many > 4096 {
					many = 0
				}
				refused(t, a, b, c, make([]byte, many), api.ErrArg)
				refused(t, a, b, c, []byte{0}, api.ErrArg)
			}
		}
	}
	refused(t, 1<<61+1, 8, 1, make([]byte, 8), api.ErrArg)
	refused(t, 1, 1<<61+1, 8, make([]byte, 8), api.ErrArg)
	refused(t, 1<<32, 1<<32, 1, nil, api.ErrArg)
}

// P19.1: as many cells as the sides make, not one fewer and not one more.
func TestNewCells(t *testing.T) {
	for _, sides := range [][3]int{{1, 1, 1}, {2, 1, 1}, {1, 5, 1}, {1, 1, 7}, {3, 4, 5}, {16, 16, 16}, {32, 32, 32}} {
		many := sides[0] * sides[1] * sides[2]
		cells := make([]byte, 2*many+1)
		for _, n := range []int{0, 1, many - 1, many + 1, 2 * many} {
			if n != many {
				refused(t, sides[0], sides[1], sides[2], cells[:n], api.ErrArg)
			}
		}
		refused(t, sides[0], sides[1], sides[2], nil, api.ErrArg)
		made(t, land{sides[0], sides[1], sides[2], cells[:many]})
	}
}

// P19.1: a kind above 16 is refused wherever it stands, and 16 is not.
func TestNewKinds(t *testing.T) {
	for k := range 256 {
		for _, at := range []int{0, 1, 11, 22, 23} {
			l := full(2, 3, 4, api.Air)
			l.k[at] = byte(k)
			if k > 16 {
				refused(t, 2, 3, 4, l.k, api.ErrKind)
				continue
			}
			l.hold(t, made(t, l), "the kind", k, "at", at)
		}
	}
	refused(t, 1, 1, 1, []byte{17}, api.ErrKind)
	refused(t, 32, 32, 32, slices.Repeat([]byte{255}, 32768), api.ErrKind)
	l := full(32, 32, 32, api.None)
	l.hold(t, made(t, l), "None everywhere")
}

// R2, P19.1: ErrArg is told where a kind is wrong too.
func TestNewWhichError(t *testing.T) {
	wrong := slices.Repeat([]byte{17}, 33)
	refused(t, 33, 1, 1, wrong, api.ErrArg)
	refused(t, 1, 33, 1, wrong, api.ErrArg)
	refused(t, 1, 1, 33, wrong, api.ErrArg)
	refused(t, 0, 1, 1, wrong[:1], api.ErrArg)
	refused(t, -1, -1, 1, wrong[:1], api.ErrArg)
	refused(t, 32, 1, 1, wrong, api.ErrArg)
	refused(t, 32, 1, 1, wrong[:31], api.ErrArg)
	refused(t, 32, 1, 1, wrong[:32], api.ErrKind)
	refused(t, 3, 1, 1, []byte{0, 0, 0, 17}, api.ErrArg)
	refused(t, 3, 1, 1, []byte{0, 0, 17}, api.ErrKind)
}

// R3, P19.1: what is done to the cells that were handed in changes nothing of the field, nor what is done to the field anything of them.
func TestNewKeepsNothing(t *testing.T) {
	l := mixed(rand.New(rand.NewSource(1)), 5, 6, 7, api.Air, 40, everyKind()...)
	handed := make([]byte, len(l.k), len(l.k)+9)
	copy(handed, l.k)
	f, e := New(5, 6, 7, handed)
	if e != api.OK {
		t.Fatal(e)
	}
	for i := range handed[:cap(handed)] {
		handed[:cap(handed)][i] = api.Lamp
	}
	l.hold(t, f, "behind changes of the cells that were handed in")
	for i := range l.k {
		l.set(t, f, i, i%17)
		for n, k := range handed[:cap(handed)] {
			if k != api.Lamp {
				t.Fatalf("Set(%d) changes the place %d of the cells that were handed in", i, n)
			}
		}
	}
	l.hold(t, f, "behind Sets")
}

// P19.1: the cell x, y, z is at the place (y deep + z) wide + x: a lamp there gives its neighbours 13, and stone there takes the sky from those below it.
func TestPlaces(t *testing.T) {
	const wide, deep, tall = 3, 4, 5
	for i := range wide * deep * tall {
		x, z, y := i%wide, i/wide%deep, i/(wide*deep)
		l := full(wide, deep, tall, api.Air)
		f := made(t, l)
		l.set(t, f, i, api.Lamp)
		lamp := f.Lamp()
		l.set(t, f, i, api.Stone)
		sky := f.Sky()
		for n := range lamp {
			nx, nz, ny := n%wide, n/wide%deep, n/(wide*deep)
			away := max(nx-x, x-nx) + max(ny-y, y-ny) + max(nz-z, z-nz)
			if int(lamp[n]) != 14-away {
				t.Fatalf("a lamp at %d %d %d gives %d %d %d: %d, not %d", x, y, z, nx, ny, nz, lamp[n], 14-away)
			}
			want := 15
			switch {
			case n == i:
				want = 0
			case nx == x && nz == z && ny < y:
				want = 14
			}
			if int(sky[n]) != want {
				t.Fatalf("under stone at %d %d %d the sky gives %d %d %d: %d, not %d", x, y, z, nx, ny, nz, sky[n], want)
			}
		}
	}
}

// P19.1, P19.3: what lies side by side in the list but not in the field are no neighbours: the end of a row and the beginning of the next one, the end of a layer and the beginning of the one above it.
func TestNoNeighbours(t *testing.T) {
	for _, where := range [][3]int{{2, 0, 0}, {2, 1, 2}, {0, 0, 1}, {0, 2, 4}, {2, 4, 0}, {0, 3, 0}, {1, 3, 2}, {1, 0, 3}} {
		l := full(3, 5, 5, api.Stone)
		f := made(t, l)
		i := l.place(where[0], where[2], where[1])
		l.set(t, f, i, api.Lamp)
		for _, n := range []int{i - 1, i + 1, i - 3, i + 3, i - 15, i + 15} {
			if n >= 0 && n < len(l.k) {
				l.set(t, f, n, api.Air)
			}
		}
		l.hold(t, f, "air about a lamp at", where)
	}
	l := full(3, 2, 2, api.Stone)
	l.k[2], l.k[3], l.k[5], l.k[6] = api.Lamp, api.Air, api.Lamp, api.Air
	expect(t, "lamps at the ends of rows", made(t, l).Lamp(), 0, 0, 14, 0, 0, 14, 0, 0, 0, 0, 0, 0)
}

// P19.2: places from 0 to the last one are there, all others are ErrArg.
func TestSetPlaces(t *testing.T) {
	for _, sides := range [][3]int{{1, 1, 1}, {3, 1, 1}, {1, 4, 1}, {1, 1, 5}, {3, 4, 5}, {32, 32, 32}} {
		l := full(sides[0], sides[1], sides[2], api.Air)
		f := made(t, l)
		last := len(l.k) - 1
		for _, i := range []int{math.MinInt, math.MinInt + 1, -32768, -last - 1, -last, -2, -1, last + 1, last + 2, 2 * (last + 1), 65536, 1 << 32, 1<<32 + last, 1 << 62, math.MaxInt - 1, math.MaxInt} {
			if i >= 0 && i <= last {
				continue
			}
			before := tells(f)
			if e := f.Set(i, api.Lamp); e != api.ErrArg {
				t.Errorf("%v: Set(%d): %d", sides, i, e)
			}
			if !before.is(tells(f)) {
				t.Errorf("%v: Set(%d) changes the field", sides, i)
			}
		}
		for _, i := range []int{0, last / 2, last} {
			l.set(t, f, i, api.Lamp)
			if !slices.Equal(f.Kinds(), l.k) {
				t.Errorf("%v: behind Set(%d) there are the kinds %v", sides, i, f.Kinds())
			}
		}
	}
}

// P19.2: kinds from 0 to 16 are there, all others are ErrKind, also those whose lowest byte is one.
func TestSetKinds(t *testing.T) {
	l := mixed(rand.New(rand.NewSource(2)), 4, 3, 5, api.Air, 30, everyKind()...)
	f := made(t, l)
	for _, i := range []int{0, 29, 59} {
		for k := -20; k < 300; k++ {
			if k >= 0 && k <= 16 {
				l.set(t, f, i, k)
				l.hold(t, f, "behind Set", i, k)
				continue
			}
			refusedSet(t, f, i, k, api.ErrKind)
		}
		for _, k := range []int{math.MinInt, -1 << 32, -256, -243, 256, 269, 1 << 32, 1<<32 + 13, 1 << 62, math.MaxInt} {
			refusedSet(t, f, i, k, api.ErrKind)
		}
	}
}

// refusedSet holds that a Set answers that error and changes nothing.
func refusedSet(t *testing.T, f *Field, i, k int, want api.Errno) {
	t.Helper()
	before := tells(f)
	if e := f.Set(i, k); e != want {
		t.Errorf("Set(%d, %d): %d, not %d", i, k, e, want)
	}
	if !before.is(tells(f)) {
		t.Errorf("Set(%d, %d), which is refused, changes the field", i, k)
	}
}

// R2, P19.2: ErrArg is told where the kind is wrong too.
func TestSetWhichError(t *testing.T) {
	f := made(t, full(2, 2, 2, api.Air))
	for _, i := range []int{math.MinInt, -1, 8, math.MaxInt} {
		for _, k := range []int{math.MinInt, -1, 0, 13, 16, 17, math.MaxInt} {
			refusedSet(t, f, i, k, api.ErrArg)
		}
	}
	for _, k := range []int{math.MinInt, -1, 17, math.MaxInt} {
		refusedSet(t, f, 0, k, api.ErrKind)
		refusedSet(t, f, 7, k, api.ErrKind)
	}
}

// P1, P19.2: behind Sets that were refused, those that are accepted make the light that they make without.
func TestRefusedSetsBetween(t *testing.T) {
	r := rand.New(rand.NewSource(3))
	l := mixed(r, 5, 5, 5, api.Air, 50, everyKind()...)
	f := made(t, l)
	for range 100 {
		f.Set(r.Intn(125), []int{-1, 17, 269}[r.Intn(3)])
		f.Set([]int{-1, 125, -125}[r.Intn(3)], r.Intn(17))
		l.set(t, f, r.Intn(125), r.Intn(17))
		l.hold(t, f, "among Sets that are refused")
	}
}

// P1: a field that New has not made has no cells.
func TestFieldWithoutCells(t *testing.T) {
	var f Field
	for _, i := range []int{-1, 0, 1} {
		if e := f.Set(i, api.Lamp); e != api.ErrArg {
			t.Errorf("Set(%d): %d", i, e)
		}
	}
	if len(f.Kinds())+len(f.Sky())+len(f.Lamp()) != 0 {
		t.Error("there are cells")
	}
}

// R3, P19.2, P19.3: Kinds, Sky and Lamp are slices of their own, so that what is done to one changes nothing of the field nor of another; a later Set changes nothing of them.
func TestAnswersAreTheirOwn(t *testing.T) {
	l := mixed(rand.New(rand.NewSource(4)), 6, 5, 4, api.Air, 40, everyKind()...)
	f := made(t, l)
	l.set(t, f, 50, api.Lamp)
	kept := tells(f)
	for _, ask := range []func() []byte{f.Kinds, f.Sky, f.Lamp} {
		one, two := ask(), ask()
		want := slices.Clone(one)
		for i := range one[:cap(one)] {
			one[:cap(one)][i] = 99
		}
		if !slices.Equal(two, want) {
			t.Error("two answers share cells")
		}
		if !kept.is(tells(f)) {
			t.Fatal("what is done to an answer changes the field")
		}
	}
	l.set(t, f, 60, api.Lamp)
	l.hold(t, f, "a Set behind what was done to answers")
	before := tells(f)
	copied := told{slices.Clone(before.kinds), slices.Clone(before.sky), slices.Clone(before.lamp)}
	for i := range l.k {
		l.set(t, f, i, (i*7+3)%17)
	}
	if !before.is(copied) {
		t.Error("a Set changes an earlier answer")
	}
	l.hold(t, f, "behind Sets of all cells")
}

// R3, R5: two fields of the same cells share nothing, and a Set of one leaves the other as it is.
func TestFieldsAreTheirOwn(t *testing.T) {
	l := mixed(rand.New(rand.NewSource(5)), 6, 6, 6, api.Air, 30, everyKind()...)
	one, other := made(t, l), made(t, l)
	kept := l.copy()
	for i := range l.k {
		l.set(t, one, i, (i*5+1)%17)
	}
	l.hold(t, one, "the field that was set")
	kept.hold(t, other, "the field that was not")
}

// sides are fields of one cell, of one row, of one column, of one layer, of one wall, and others.
func sides() [][3]int {
	return [][3]int{
		{1, 1, 1}, {2, 1, 1}, {1, 2, 1}, {1, 1, 2}, {32, 1, 1}, {1, 32, 1}, {1, 1, 32}, {20, 1, 1}, {1, 17, 1}, {1, 1, 19},
		{8, 9, 1}, {9, 1, 8}, {1, 9, 8}, {32, 32, 1}, {32, 1, 32}, {1, 32, 32}, {2, 2, 2}, {3, 4, 5}, {5, 4, 3}, {7, 7, 7}, {4, 12, 6}, {12, 4, 9}, {3, 3, 32}, {16, 16, 16},
	}
}

// mixtures are many kinds, few and many of them, in what light goes through and in what it does not.
func mixtures(r *rand.Rand, wide, deep, tall int) []land {
	open := []int{api.Air, api.Water, api.Leaves, api.Glass, api.Lamp}
	var l []land
	for _, percent := range []int{3, 20, 60, 100} {
		l = append(l,
			mixed(r, wide, deep, tall, api.Air, percent, everyKind()...),
			mixed(r, wide, deep, tall, api.Stone, percent, everyKind()...),
			mixed(r, wide, deep, tall, api.Stone, percent, open...),
			mixed(r, wide, deep, tall, api.Air, percent, api.Stone, api.Glass, api.None),
			mixed(r, wide, deep, tall, api.Water, percent, api.Leaves, api.Lamp, api.Gold),
		)
	}
	return l
}

// P19.3: light of fields of many sides, of one kind and of many, behind New.
func TestNewOfManySides(t *testing.T) {
	t.Parallel()
	r := rand.New(rand.NewSource(6))
	for _, s := range sides() {
		for k := range 17 {
			l := full(s[0], s[1], s[2], k)
			l.hold(t, made(t, l), "all of the kind", k)
		}
		for n, l := range mixtures(r, s[0], s[1], s[2]) {
			l.hold(t, made(t, l), "the mixture", n)
		}
	}
}

// P19.3: light of the greatest fields, behind New and behind Sets.
func TestGreatest(t *testing.T) {
	t.Parallel()
	r := rand.New(rand.NewSource(7))
	for n, l := range mixtures(r, 32, 32, 32) {
		f := made(t, l)
		l.hold(t, f, "the mixture", n)
		for range 20 {
			l.set(t, f, r.Intn(32768), r.Intn(17))
		}
		for _, i := range []int{0, 31, 1023, 31744, 32767} {
			l.set(t, f, i, api.Lamp)
		}
		l.hold(t, f, "the mixture", n, "with Sets")
	}
}

// P19.3, P19.4: light behind each of many Sets in a row, each of any kind at any place.
func TestSetsInARow(t *testing.T) {
	t.Parallel()
	r := rand.New(rand.NewSource(8))
	for _, s := range sides() {
		many := 150
		if s[0]*s[1]*s[2] > 700 {
			many = 12
		}
		for n, l := range mixtures(r, s[0], s[1], s[2]) {
			f := made(t, l)
			for range many {
				i, k := r.Intn(len(l.k)), r.Intn(17)
				l.set(t, f, i, k)
				l.hold(t, f, "the mixture", n, "behind Set", i, k)
			}
		}
	}
}

// P19.3, P19.4: light behind each of many Sets of few kinds, so that lamps, walls and holes often come and go in one place.
func TestSetsOfFewKinds(t *testing.T) {
	t.Parallel()
	r := rand.New(rand.NewSource(9))
	for _, kinds := range [][]int{
		{api.Air, api.Stone}, {api.Air, api.Lamp}, {api.Stone, api.Lamp, api.Air}, {api.Air, api.Glass, api.None}, {api.Air, api.Water, api.Leaves}, {api.Gold, api.Air, api.Lamp}, {api.Air, api.Air, api.Air, api.Stone, api.Lamp},
	} {
		for _, s := range [][3]int{{1, 1, 9}, {9, 1, 1}, {4, 1, 6}, {5, 5, 5}, {3, 7, 8}} {
			l := full(s[0], s[1], s[2], kinds[0])
			f := made(t, l)
			for range 500 {
				i, k := r.Intn(len(l.k)), kinds[r.Intn(len(kinds))]
				l.set(t, f, i, k)
				l.hold(t, f, "of the kinds", kinds, "behind Set", i, k)
			}
		}
	}
}

// numbered is the land of small sides whose cells' kinds are the digits of a number.
func numbered(wide, deep, tall, number int, kinds []int) land {
	l := full(wide, deep, tall, 0)
	for i := range l.k {
		l.k[i] = byte(kinds[number%len(kinds)])
		number /= len(kinds)
	}
	return l
}

// P19.3, P19.4: of all small fields of some kinds, and behind each Set that may be done to each of them and behind the one that takes it back.
func TestAllSmallFields(t *testing.T) {
	t.Parallel()
	for _, s := range []struct {
		wide, deep, tall int
		kinds            []int
	}{
		{1, 1, 4, []int{api.Air, api.Stone, api.Water, api.Gold, api.Leaves, api.Lamp, api.Glass, api.None}},
		{4, 1, 1, []int{api.Air, api.Stone, api.Water, api.Gold, api.Leaves, api.Lamp, api.None}},
		{2, 1, 3, []int{api.Air, api.Stone, api.Leaves, api.Lamp}},
		{1, 3, 2, []int{api.Air, api.None, api.Water, api.Gold}},
		{2, 2, 2, []int{api.Air, api.Stone, api.Lamp}},
	} {
		many := 1
		for range s.wide * s.deep * s.tall {
			many *= len(s.kinds)
		}
		sky, lamp := make([][]byte, many), make([][]byte, many)
		for n := range many {
			l := numbered(s.wide, s.deep, s.tall, n, s.kinds)
			sky[n], lamp[n] = l.ruled(true), l.ruled(false)
		}
		holds := func(f *Field, n int) {
			if !slices.Equal(f.Sky(), sky[n]) || !slices.Equal(f.Lamp(), lamp[n]) {
				t.Fatalf("of the kinds %v: the sky %v and lamps %v, not %v and %v", f.Kinds(), f.Sky(), f.Lamp(), sky[n], lamp[n])
			}
		}
		for n := range many {
			l := numbered(s.wide, s.deep, s.tall, n, s.kinds)
			f := made(t, l)
			holds(f, n)
			digit := 1
			for i, was := range l.k {
				own := n / digit % len(s.kinds)
				for d, k := range s.kinds {
					f.Set(i, k)
					holds(f, n+(d-own)*digit)
					f.Set(i, int(was))
					holds(f, n)
				}
				digit *= len(s.kinds)
			}
		}
	}
}

// P19.3: a lamp that is set and taken away, in air and in a tunnel: nothing of its light stays.
func TestLampComesAndGoes(t *testing.T) {
	for _, ground := range []int{api.Air, api.Stone, api.Water, api.Leaves, api.Glass, api.None} {
		l := full(9, 8, 7, ground)
		f := made(t, l)
		before := tells(f)
		for i := range l.k {
			l.set(t, f, i, api.Lamp)
			if i%5 == 0 {
				l.hold(t, f, "a lamp at", i, "in", ground)
			}
			l.set(t, f, i, ground)
			if !before.is(tells(f)) {
				t.Fatalf("of a lamp at %d in %d something stays", i, ground)
			}
		}
	}
}

// P19.3: the light of a lamp at the end of a closed tunnel goes as far as it does, and so does its going out.
func TestLampInATunnel(t *testing.T) {
	l := full(20, 3, 3, api.Stone)
	for x := range 20 {
		l.k[l.place(x, 1, 1)] = api.Air
	}
	f := made(t, l)
	l.set(t, f, l.place(0, 1, 1), api.Lamp)
	row := func() []byte {
		lamp := f.Lamp()
		return lamp[l.place(0, 1, 1):l.place(20, 1, 1)]
	}
	expect(t, "a lamp", row(), 14, 13, 12, 11, 10, 9, 8, 7, 6, 5, 4, 3, 2, 1, 0, 0, 0, 0, 0, 0)
	l.set(t, f, l.place(4, 1, 1), api.Water)
	expect(t, "through water", row(), 14, 13, 12, 11, 8, 7, 6, 5, 4, 3, 2, 1, 0, 0, 0, 0, 0, 0, 0, 0)
	l.set(t, f, l.place(4, 1, 1), api.Leaves)
	expect(t, "through leaves", row(), 14, 13, 12, 11, 9, 8, 7, 6, 5, 4, 3, 2, 1, 0, 0, 0, 0, 0, 0, 0)
	l.set(t, f, l.place(4, 1, 1), api.Glass)
	expect(t, "through glass", row(), 14, 13, 12, 11, 10, 9, 8, 7, 6, 5, 4, 3, 2, 1, 0, 0, 0, 0, 0, 0)
	l.set(t, f, l.place(4, 1, 1), api.Gold)
	expect(t, "up to gold", row(), 14, 13, 12, 11, 3, 2, 1, 0, 0, 0, 0, 0, 0, 0, 0, 0, 0, 0, 0, 0)
	l.set(t, f, l.place(4, 1, 1), api.None)
	expect(t, "up to None", row(), 14, 13, 12, 11, 0, 0, 0, 0, 0, 0, 0, 0, 0, 0, 0, 0, 0, 0, 0, 0)
	l.set(t, f, l.place(4, 1, 1), api.Lamp)
	expect(t, "two lamps", row(), 14, 13, 12, 13, 14, 13, 12, 11, 10, 9, 8, 7, 6, 5, 4, 3, 2, 1, 0, 0)
	l.set(t, f, l.place(0, 1, 1), api.Stone)
	expect(t, "the second one", row(), 0, 11, 12, 13, 14, 13, 12, 11, 10, 9, 8, 7, 6, 5, 4, 3, 2, 1, 0, 0)
	l.set(t, f, l.place(4, 1, 1), api.Air)
	expect(t, "none", row(), make([]byte, 20)...)
	expect(t, "the sky in a closed tunnel", f.Sky()[l.place(0, 1, 1):l.place(20, 1, 1)], make([]byte, 20)...)
}

// P19.3: a lamp that is walled in on all sides gives nothing more outside, and gives it again through each wall that is taken out.
func TestLampWalledIn(t *testing.T) {
	for _, wall := range []int{api.Stone, api.None, api.Gold} {
		l := full(9, 9, 9, api.Air)
		f := made(t, l)
		middle := l.place(4, 4, 4)
		l.set(t, f, middle, api.Lamp)
		about := []int{middle - 1, middle + 1, middle - 9, middle + 9, middle - 81, middle + 81}
		for _, i := range about {
			l.set(t, f, i, wall)
			l.hold(t, f, "walls of", wall, "up to", i)
		}
		want := byte(0)
		if wall == api.Gold {
			want = 2
		}
		lamp := f.Lamp()
		if lamp[middle] != 14 || lamp[middle-2] != want || lamp[middle+162] != want {
			t.Errorf("of a lamp behind walls of %d there is %d, %d outside and %d above", wall, lamp[middle], lamp[middle-2], lamp[middle+162])
		}
		for _, i := range about {
			l.set(t, f, i, api.Air)
			l.hold(t, f, "let out at", i, "of walls of", wall)
			l.set(t, f, i, wall)
			l.hold(t, f, "walled in again at", i, "with", wall)
		}
		for _, i := range about {
			l.set(t, f, i, api.Air)
			l.hold(t, f, "without the wall", i, "of", wall)
		}
		if lamp := f.Lamp(); lamp[middle-2] != 12 {
			t.Errorf("of a lamp that was let out there is %d two cells away", lamp[middle-2])
		}
	}
}

// P19.3: of two lamps, near one another and far from one another, one is taken away: the other's light stays, and nothing else.
func TestTwoLamps(t *testing.T) {
	for _, ground := range []int{api.Air, api.Leaves, api.Water} {
		for away := 1; away < 20; away++ {
			l := full(20, 5, 4, ground)
			f := made(t, l)
			one, other := l.place(0, 2, 2), l.place(away, 2, 2)
			l.set(t, f, one, api.Lamp)
			alone := tells(f)
			l.set(t, f, other, api.Lamp)
			l.hold(t, f, "two lamps in", ground, "that are apart by", away)
			l.set(t, f, other, ground)
			if !alone.is(tells(f)) {
				t.Fatalf("of two lamps in %d, apart by %d, one is not as it was alone", ground, away)
			}
			l.set(t, f, other, api.Lamp)
			l.set(t, f, one, ground)
			l.hold(t, f, "the second of two lamps in", ground, "that were apart by", away)
		}
	}
}

// P19.3: gold and a lamp side by side: the gold shines with its own, and keeps that when the lamp goes.
func TestGoldBesideALamp(t *testing.T) {
	f := made(t, land{5, 1, 1, []byte{api.Air, api.Gold, api.Lamp, api.Air, api.Air}})
	expect(t, "gold and a lamp", f.Lamp(), 2, 3, 14, 13, 12)
	f.Set(2, api.Air)
	expect(t, "gold alone", f.Lamp(), 2, 3, 2, 1, 0)
	f.Set(2, api.Gold)
	expect(t, "two of gold", f.Lamp(), 2, 3, 3, 2, 1)
	f.Set(1, api.Stone)
	expect(t, "the second one", f.Lamp(), 0, 0, 3, 2, 1)
}

// P19.3: a block in a column of the sky, at its top, in its middle and at its floor, of each kind, set into it and taken out of it.
func TestColumnOfTheSky(t *testing.T) {
	for k, of := range table {
		for _, y := range []int{31, 16, 1, 0} {
			l := full(1, 1, 32, api.Air)
			f := made(t, l)
			l.set(t, f, y, k)
			var want []byte
			level := 15
			for at := 31; at >= 0; at-- {
				switch {
				case of.clear || at > y:
				case of.shut || at == 31:
					level = 0
				case at == y:
					level = 15 - of.loss
				default:
					level = max(0, level-1)
				}
				want = append(want, byte(level))
			}
			slices.Reverse(want)
			expect(t, "a column of the sky", f.Sky(), want...)
			l.set(t, f, y, api.Air)
			expect(t, "an open column of the sky", f.Sky(), slices.Repeat([]byte{15}, 32)...)
			if t.Failed() {
				t.Fatalf("with the kind %d at %d", k, y)
			}
		}
	}
}

// P19.3: blocks in one of many columns, from the top down and from the floor up, and out again; so also where another block stands above or below.
func TestColumnsAmongOthers(t *testing.T) {
	for _, k := range []int{api.Stone, api.None, api.Water, api.Leaves, api.Lamp, api.Glass, api.Gold} {
		for _, ground := range []int{api.Air, api.Glass} {
			l := full(3, 3, 12, ground)
			f := made(t, l)
			for _, ys := range [][]int{{11, 6, 0}, {0, 6, 11}, {6, 0, 11}, {6, 11, 0}} {
				for _, y := range ys {
					l.set(t, f, l.place(1, y, 1), k)
					l.hold(t, f, "in the midst of", ground, "the kind", k, "set at", y, "of", ys)
				}
				for _, y := range ys {
					l.set(t, f, l.place(1, y, 1), ground)
					l.hold(t, f, "in the midst of", ground, "the kind", k, "taken at", y, "of", ys)
				}
			}
		}
	}
}

// P19.3: a roof over all the field, closed cell by cell and opened at one: it is dark below a closed one, and light goes out from the hole.
func TestRoof(t *testing.T) {
	l := full(6, 6, 5, api.Air)
	f := made(t, l)
	for i := range 36 {
		l.set(t, f, 4*36+i, api.Brick)
		l.hold(t, f, "a roof up to", i)
	}
	if sky := f.Sky(); slices.Max(sky) != 0 {
		t.Error("under a closed roof there is light of the sky:", sky)
	}
	l.set(t, f, l.place(2, 4, 3), api.Air)
	sky := f.Sky()
	for y := range 4 {
		for z := range 6 {
			for x := range 6 {
				if want := 15 - max(x-2, 2-x) - max(z-3, 3-z); int(sky[l.place(x, y, z)]) != want {
					t.Fatalf("under a hole at 2 3 there is %d at %d %d %d, not %d", sky[l.place(x, y, z)], x, y, z, want)
				}
			}
		}
	}
	l.set(t, f, l.place(2, 4, 3), api.Leaves)
	if sky := f.Sky(); slices.Max(sky) != 0 {
		t.Error("under leaves in the topmost layer there is light of the sky:", sky)
	}
	l.set(t, f, l.place(2, 4, 3), api.Glass)
	if !slices.Equal(sky, f.Sky()) {
		t.Error("glass is not as air")
	}
}

// P19.3: water, leaves and glass in one another's place, in the sky's way and in a lamp's.
func TestWaterLeavesGlass(t *testing.T) {
	way := []int{api.Water, api.Leaves, api.Glass, api.Air, api.Leaves, api.Water, api.Air, api.Glass, api.Water}
	for _, s := range [][3]int{{7, 1, 6}, {5, 5, 6}, {1, 1, 20}} {
		l := full(s[0], s[1], s[2], api.Air)
		f := made(t, l)
		l.set(t, f, 0, api.Lamp)
		for y := range s[2] {
			for _, k := range way {
				i := l.place(s[0]/2, y, s[1]/2)
				l.set(t, f, i, k)
				l.hold(t, f, "the kind", k, "at", i)
			}
		}
		for i := range s[0] * s[1] {
			for _, k := range way[:1+i%len(way)] {
				at := l.place(0, s[2]-2, 0) + i
				l.set(t, f, at, k)
				l.hold(t, f, "the kind", k, "in a layer at", at)
			}
		}
	}
}

// P19.4: each kind in the place of each other one gives what a new field has, within air, stone, water and glass, with a lamp beside it.
func TestEachKindForEach(t *testing.T) {
	t.Parallel()
	for _, ground := range []int{api.Air, api.Stone, api.Water, api.Glass} {
		for was := range 17 {
			for k := range 17 {
				l := full(5, 3, 5, ground)
				l.k[l.place(0, 2, 1)] = api.Lamp
				l.k[l.place(2, 2, 1)] = byte(was)
				f := made(t, l)
				l.set(t, f, l.place(2, 2, 1), k)
				l.hold(t, f, "in", ground, "where", was, "stood")
			}
		}
	}
}

// P19.4: what was set and is set back again, in any order, is as bright as before.
func TestBackAgain(t *testing.T) {
	t.Parallel()
	r := rand.New(rand.NewSource(10))
	for n, l := range mixtures(r, 10, 9, 11) {
		f := made(t, l)
		before, old := tells(f), l.copy()
		var changed []int
		for range 40 {
			i := r.Intn(len(l.k))
			l.set(t, f, i, r.Intn(17))
			changed = append(changed, i)
		}
		r.Shuffle(len(changed), func(a, b int) { changed[a], changed[b] = changed[b], changed[a] })
		for _, i := range changed {
			l.set(t, f, i, int(old.k[i]))
		}
		if !before.is(tells(f)) {
			t.Fatalf("the mixture %d is not as before", n)
		}
	}
}

// P19.4: cells that are set in one order or another end with the same light, that of a new field.
func TestOrders(t *testing.T) {
	t.Parallel()
	r := rand.New(rand.NewSource(11))
	for n, l := range mixtures(r, 8, 7, 9) {
		places := r.Perm(len(l.k))[:60]
		aim := l.copy()
		for _, i := range places {
			aim.k[i] = byte(r.Intn(17))
		}
		want := tells(made(t, aim))
		aim.hold(t, made(t, aim), "the mixture", n)
		for range 6 {
			r.Shuffle(len(places), func(a, b int) { places[a], places[b] = places[b], places[a] })
			f := made(t, l)
			for _, i := range places {
				if e := f.Set(i, int(aim.k[i])); e != api.OK {
					t.Fatal(e)
				}
			}
			if !want.is(tells(f)) {
				t.Fatalf("the mixture %d hangs on the order of the Sets", n)
			}
		}
	}
}

// P19.4: a cell that is set as it is changes nothing.
func TestSetAsItIs(t *testing.T) {
	r := rand.New(rand.NewSource(12))
	for n, l := range mixtures(r, 6, 5, 7) {
		f := made(t, l)
		before := tells(f)
		for i, k := range l.k {
			l.set(t, f, i, int(k))
			l.set(t, f, i, int(k))
			if !before.is(tells(f)) {
				t.Fatalf("the mixture %d: the place %d, set as it is, changes something", n, i)
			}
		}
	}
}

// P19.4: two fields that began as unlike ones and were set to the same cells in unlike ways have the same light.
func TestUnlikeWays(t *testing.T) {
	t.Parallel()
	r := rand.New(rand.NewSource(13))
	for n, aim := range mixtures(r, 9, 6, 8) {
		want := tells(made(t, aim))
		for ground := range 17 {
			f := made(t, full(9, 6, 8, ground))
			for range 30 { // what is overwritten anyway
				f.Set(r.Intn(len(aim.k)), r.Intn(17))
			}
			for _, i := range r.Perm(len(aim.k)) {
				f.Set(i, r.Intn(17))
				f.Set(i, int(aim.k[i]))
			}
			if !want.is(tells(f)) {
				t.Fatalf("the mixture %d, set into the kind %d, has another light than a new field", n, ground)
			}
		}
	}
}

// P19.4: very many Sets in the greatest field end with a new field's light. (Each is to renew what it changes alone: all cells for each would take minutes.)
func TestVeryManySets(t *testing.T) {
	t.Parallel()
	r := rand.New(rand.NewSource(14))
	kinds := []int{api.Air, api.Air, api.Air, api.Stone, api.Stone, api.Lamp, api.Water, api.Leaves, api.Glass, api.Gold, api.None}
	l := full(32, 32, 32, api.Stone)
	f := made(t, l)
	for n := range 200000 {
		l.set(t, f, r.Intn(32768), kinds[r.Intn(len(kinds))])
		if n%50000 == 49999 {
			l.hold(t, f, "behind Sets", n)
		}
	}
	for n := range 5000 {
		l.set(t, f, r.Intn(32768), api.Air)
		if n%2500 == 0 {
			l.hold(t, f, "behind so much air", n)
		}
	}
	l.hold(t, f, "at the end")
}

// P19.3: the field's cells in the place of the nine chunks': a field of 16 by 16 columns that stands at the world's top among None, over None, has what chapter 18's Flood tells there.
func TestAsFlood(t *testing.T) {
	t.Parallel()
	r := rand.New(rand.NewSource(15))
	for n, l := range mixtures(r, 16, 16, 20) {
		f := made(t, l)
		for range 30 {
			l.set(t, f, r.Intn(len(l.k)), r.Intn(17))
		}
		var near []*chunk.Chunk
		for range 9 {
			near = append(near, chunk.Full(api.None))
		}
		const below = 108 * 256
		for i, k := range l.k {
			near[4].Set(below+i, int(k))
		}
		sky, lamp, e := flood.Flood(near)
		if e != api.OK {
			t.Fatal(e)
		}
		l.same(t, "sky", f.Sky(), sky[below:], "the mixture", n)
		l.same(t, "lamp", f.Lamp(), lamp[below:], "the mixture", n)
	}
}

// patterned is a number that is made of three others and a seed, by a rule that is short in any language.
func patterned(x, y, z, seed int) int {
	n := uint32(x*73856093) ^ uint32(y*19349663) ^ uint32(z*83492791) ^ uint32(seed*2654435761)
	n ^= n >> 15
	n *= 2246822519
	n ^= n >> 13
	n *= 3266489917
	n ^= n >> 16
	return int(n)
}

// P19.2, P19.3: light of patterns that were set into, worked out apart from this program and in another language: what all levels make together, and the sums of all.
func TestKnown(t *testing.T) {
	for _, p := range []struct {
		wide, deep, tall, seed, share int
		sky, lamp                     int
		kinds, skies, lamps           uint32
	}{
		{7, 5, 11, 1, 0, 3699, 2974, 0x58f0d242, 0xb316309e, 0xccd7124d},
		{16, 9, 20, 2, 20, 14448, 18267, 0x9361fb5b, 0x67f95fd7, 0x085a48f0},
		{32, 3, 32, 3, 60, 808, 3735, 0xf8e982a9, 0xcaf5a379, 0xf67323f4},
		{4, 32, 13, 4, 75, 216, 1020, 0xfe90f6ce, 0xebe194c5, 0x294a4ed7},
		{32, 32, 32, 5, 40, 47779, 134524, 0xd31954f7, 0x5111336c, 0x5c5f0c6b},
	} {
		l := full(p.wide, p.deep, p.tall, api.Air)
		for i := range l.k {
			switch k := patterned(i%p.wide, i/p.wide/p.deep, i/p.wide%p.deep, p.seed) % 100; {
			case k < 17:
				l.k[i] = byte(k)
			case k < 17+p.share:
				l.k[i] = api.Stone
			}
		}
		f := made(t, l)
		for j := range p.seed * 100 {
			n := patterned(j, j*j, 7, p.seed)
			l.set(t, f, n%len(l.k), n>>8%17)
		}
		sky, lamp := f.Sky(), f.Lamp()
		if num.Sum(f.Kinds()) != p.kinds || total(sky) != p.sky || total(lamp) != p.lamp || num.Sum(sky) != p.skies || num.Sum(lamp) != p.lamps {
			t.Errorf("the pattern %d of %d %d %d: %d and %d in all, with the sums %08x, %08x and %08x", p.seed, p.wide, p.deep, p.tall, total(sky), total(lamp), num.Sum(f.Kinds()), num.Sum(sky), num.Sum(lamp))
		}
	}
}

// total is what numbers are in all.
func total(b []byte) int {
	n := 0
	for _, v := range b {
		n += int(v)
	}
	return n
}
