package ladder

import (
	"math"
	"math/rand"
	"reflect"
	"slices"
	"testing"

	"outcrop/api"
	"outcrop/grid"
)

const (
	least    = math.MinInt
	greatest = math.MaxInt
)

// rung is a stage with reads, told as pairs of a stage and a Radius.
func rung(pairs ...int) api.Rung {
	var r api.Rung
	for i := 0; i+1 < len(pairs); i += 2 {
		r.Reads = append(r.Reads, api.Read{Stage: pairs[i], Radius: pairs[i+1]})
	}
	return r
}

// row is a ladder of so many stages, of which each reads the one below it within r.
func row(many, r int) []api.Rung {
	var l []api.Rung
	for s := range many {
		if s == 0 {
			l = append(l, rung())
		} else {
			l = append(l, rung(s-1, r))
		}
	}
	return l
}

// reading is a ladder of two stages: the higher one reads the lower one so many times, within 0.
func reading(many int) []api.Rung {
	return []api.Rung{rung(), {Reads: make([]api.Read, many)}}
}

// same is a copy of a ladder that shares nothing with it.
func same(l []api.Rung) []api.Rung {
	c := slices.Clone(l)
	for i := range c {
		c[i].Reads = slices.Clone(c[i].Reads)
	}
	return c
}

// places are chunks about 0, of the world's border, and where numbers wrap round.
func places() []api.At {
	return []api.At{{}, {X: 3, Z: -7}, {X: -1, Z: 1}, {X: 65536, Z: -65536}, {X: greatest, Z: least}, {X: least + 2, Z: greatest - 2}}
}

// noStages are numbers that no ladder has as a stage.
func noStages() []int {
	return []int{least, least + 1, -16, -2, -1, 16, 17, 1 << 32, greatest - 1, greatest}
}

// away is how far a chunk is from another one: the greater of both ways. Both are near each other, so a difference that wraps round is right again.
func away(a, b api.At) int {
	dx, dz := a.X-b.X, a.Z-b.Z
	return max(dx, -dx, dz, -dz)
}

// square are the chunks within r about one, by rising Z, then rising X.
func square(c api.At, r int) []api.At {
	var l []api.At
	for dz := -r; dz <= r; dz++ {
		for dx := -r; dx <= r; dx++ {
			l = append(l, api.At{X: c.X + dx, Z: c.Z + dz})
		}
	}
	return l
}

// tasksOf are a stage of some chunks.
func tasksOf(stage int, chunks []api.At) []api.Task {
	var l []api.Task
	for _, c := range chunks {
		l = append(l, api.Task{Stage: stage, C: c})
	}
	return l
}

// needed are all tasks that one needs, found by following each read from chunk to chunk, with no word of radii.
func needed(l []api.Rung, first api.Task) map[api.Task]bool {
	all := map[api.Task]bool{first: true}
	for work := []api.Task{first}; len(work) > 0; work = work[1:] {
		for _, read := range l[work[0].Stage].Reads {
			for _, c := range square(work[0].C, read.Radius) {
				t := api.Task{Stage: read.Stage, C: c}
				if !all[t] {
					all[t] = true
					work = append(work, t)
				}
			}
		}
	}
	return all
}

// fits is May by the words of the chapter, with each way down a ladder walked to its end.
func fits(l []api.Rung) bool {
	if len(l) > 16 {
		return false
	}
	for s, r := range l {
		if len(r.Reads) > 16 {
			return false
		}
		for _, read := range r.Reads {
			if read.Stage < 0 || read.Stage >= s || read.Radius < 0 || read.Radius > 8 {
				return false
			}
		}
	}
	var walk func(s, r int) bool
	walk = func(s, r int) bool {
		for _, read := range l[s].Reads {
			if r+read.Radius > 8 || !walk(read.Stage, r+read.Radius) {
				return false
			}
		}
		return true
	}
	for s := range l {
		if !walk(s, 0) {
			return false
		}
	}
	return true
}

// some is a ladder of few stages, with reads of lower ones within small Radii.
func some(r *rand.Rand) []api.Rung {
	l := make([]api.Rung, 1+r.Intn(6))
	for s := 1; s < len(l); s++ {
		for range r.Intn(4) {
			l[s].Reads = append(l[s].Reads, api.Read{Stage: r.Intn(s), Radius: r.Intn(4)})
		}
	}
	return l
}

// may checks what May tells.
func may(t *testing.T, l []api.Rung, want bool) {
	t.Helper()
	if got := May(l); got != want {
		t.Errorf("May(%v) is %v", l, got)
	}
}

// spreads checks Radii.
func spreads(t *testing.T, l []api.Rung, stage int, want ...int) {
	t.Helper()
	if got := Radii(l, stage); !slices.Equal(got, want) {
		t.Errorf("Radii(%v, %d) is %v, not %v", l, stage, got, want)
	}
}

// nothing checks that of a ladder and a stage there are no Radii, no Cap, no Tasks and no Needs.
func nothing(t *testing.T, l []api.Rung, stage int) {
	t.Helper()
	if got := Radii(l, stage); len(got) != 0 {
		t.Errorf("Radii(%v, %d) is %v", l, stage, got)
	}
	if got := Cap(l, stage); got != 0 {
		t.Errorf("Cap(%v, %d) is %d", l, stage, got)
	}
	for _, c := range places() {
		if got := Tasks(l, stage, c); len(got) != 0 {
			t.Errorf("Tasks(%v, %d, %v) are %d", l, stage, c, len(got))
		}
		if got := Needs(l, api.Task{Stage: stage, C: c}); len(got) != 0 {
			t.Errorf("Needs(%v, %d, %v) are %d", l, stage, c, len(got))
		}
	}
}

// P12.1: the six stages, and what each reads, in order.
func TestWorld(t *testing.T) {
	want := [][]api.Read{
		nil,
		{{Stage: 0, Radius: 0}},
		{{Stage: 1, Radius: 1}},
		{{Stage: 2, Radius: 0}},
		{{Stage: 3, Radius: 0}, {Stage: 0, Radius: 1}},
		{{Stage: 4, Radius: 1}},
	}
	l := World()
	if len(l) != len(want) {
		t.Fatalf("%d stages", len(l))
	}
	for s, r := range l {
		if !slices.Equal(r.Reads, want[s]) {
			t.Errorf("stage %d reads %v, not %v", s, r.Reads, want[s])
		}
	}
	may(t, l, true)
}

// P12.1, R3: each World is a new list, with new lists of reads; one that was changed changes no other one, and no later one.
func TestWorldIsNew(t *testing.T) {
	kept, fresh := World(), same(World())
	l := World()
	for s := range l {
		for i := range l[s].Reads {
			l[s].Reads[i] = api.Read{Stage: 9, Radius: 9}
		}
		l[s] = rung(8, 8)
	}
	if !reflect.DeepEqual(kept, fresh) {
		t.Errorf("the one ahead is %v", kept)
	}
	if got := World(); !reflect.DeepEqual(got, fresh) {
		t.Errorf("the one behind is %v", got)
	}
}

// P12.2: the examples, and all other stages of the world.
func TestRadiiOfWorld(t *testing.T) {
	l := World()
	spreads(t, l, 0, 0, -1, -1, -1, -1, -1)
	spreads(t, l, 1, 0, 0, -1, -1, -1, -1)
	spreads(t, l, 2, 1, 1, 0, -1, -1, -1)
	spreads(t, l, 3, 1, 1, 0, 0, -1, -1)
	spreads(t, l, 4, 1, 1, 0, 0, 0, -1)
	spreads(t, l, 5, 2, 2, 1, 1, 1, 0)
}

// P12.2: a stage that is read twice, or by two ways, is needed within the greatest of it, whichever comes first.
func TestRadiiOfManyReads(t *testing.T) {
	spreads(t, []api.Rung{rung(), rung(0, 1, 0, 3)}, 1, 3, 0)
	spreads(t, []api.Rung{rung(), rung(0, 3, 0, 1)}, 1, 3, 0)
	spreads(t, []api.Rung{rung(), rung(0, 2, 0, 2)}, 1, 2, 0)
	spreads(t, []api.Rung{rung(), rung(0, 0, 0, 8, 0, 0)}, 1, 8, 0)
	// The longer way is the nearer one, then the farther one.
	spreads(t, []api.Rung{rung(), rung(0, 1), rung(1, 1), rung(2, 1, 0, 5)}, 3, 5, 2, 1, 0)
	spreads(t, []api.Rung{rung(), rung(0, 2), rung(1, 2), rung(0, 5, 2, 2)}, 3, 6, 4, 2, 0)
	spreads(t, []api.Rung{rung(), rung(0, 2), rung(1, 2), rung(2, 2, 0, 5)}, 3, 6, 4, 2, 0)
	// Two ways of the same number of reads, of which the lower stage's or the higher stage's is the farther one.
	spreads(t, []api.Rung{rung(), rung(0, 4), rung(0, 1), rung(1, 1, 2, 2)}, 3, 5, 1, 2, 0)
	spreads(t, []api.Rung{rung(), rung(0, 1), rung(0, 4), rung(1, 1, 2, 2)}, 3, 6, 1, 2, 0)
	// A stage that is itself needed by two ways hands the farther one on.
	spreads(t, []api.Rung{rung(), rung(0, 1), rung(1, 3), rung(1, 1, 2, 2)}, 3, 6, 5, 2, 0)
	spreads(t, []api.Rung{rung(), rung(0, 1), rung(1, 0), rung(1, 4, 2, 2)}, 3, 5, 4, 2, 0)
}

// P12.2: a stage that is not needed is -1, also between needed ones, and spreads nothing; one that is needed within 0 is 0.
func TestRadiiOfUnneeded(t *testing.T) {
	l := []api.Rung{rung(), rung(), rung(0, 8), rung(1, 0), rung(), rung(3, 0)}
	spreads(t, l, 0, 0, -1, -1, -1, -1, -1)
	spreads(t, l, 1, -1, 0, -1, -1, -1, -1)
	spreads(t, l, 2, 8, -1, 0, -1, -1, -1)
	spreads(t, l, 3, -1, 0, -1, 0, -1, -1)
	spreads(t, l, 4, -1, -1, -1, -1, 0, -1)
	spreads(t, l, 5, -1, 0, -1, 0, -1, 0)
	spreads(t, []api.Rung{rung(), rung(0, 1), rung()}, 2, -1, -1, 0)
}

// P12.2: ladders of no stage, of one, of 16 and of more.
func TestMayOfManyStages(t *testing.T) {
	may(t, nil, true)
	may(t, []api.Rung{}, true)
	may(t, []api.Rung{{}}, true)
	may(t, []api.Rung{{Reads: []api.Read{}}}, true)
	may(t, make([]api.Rung, 15), true)
	may(t, make([]api.Rung, 16), true)
	may(t, row(16, 0), true)
	for _, many := range []int{17, 18, 32, 256, 1 << 16} {
		may(t, make([]api.Rung, many), false)
		may(t, row(many, 0), false)
	}
}

// P12.2: stages with no reads, with 16 and with more, the last one and those below it; 17 are too many also where they are all the same.
func TestMayOfManyReads(t *testing.T) {
	for _, many := range []int{0, 1, 15, 16} {
		may(t, reading(many), true)
		may(t, append(reading(many), rung()), true)
	}
	for _, many := range []int{17, 18, 32, 1 << 16} {
		may(t, reading(many), false)
		may(t, append(reading(many), rung()), false)
		may(t, append(reading(many), rung(0, 0)), false)
	}
	var all api.Rung
	for s := range 15 {
		all.Reads = append(all.Reads, api.Read{Stage: s, Radius: s % 9})
	}
	may(t, append(make([]api.Rung, 15), all), true)
	all.Reads = append(all.Reads, all.Reads[0])
	may(t, append(make([]api.Rung, 15), all), true)
	all.Reads = append(all.Reads, all.Reads[0])
	may(t, append(make([]api.Rung, 15), all), false)
}

// P12.2: reads of lower stages, of the same one, of higher ones, and of those that there are not; wherever on the ladder, and behind a read that may be.
func TestMayOfReadStages(t *testing.T) {
	for s := range 4 {
		for _, read := range append(noStages(), 0, 1, 2, 3, 4, 5) {
			want := read >= 0 && read < s
			l := make([]api.Rung, 4)
			l[s] = rung(read, 1)
			may(t, l, want)
			l[3].Reads = slices.Insert(l[3].Reads, 0, api.Read{Stage: 0, Radius: 2})
			may(t, l, want)
		}
	}
	may(t, []api.Rung{rung(0, 0)}, false)
	may(t, []api.Rung{rung(1, 0), rung()}, false)
	may(t, []api.Rung{rung(1, 0), rung(0, 0)}, false)
	may(t, []api.Rung{rung(), rung(), rung(1, 0), rung(2, 0)}, true)
}

// P12.2: Radii from 0 to 8, and others, of any of the reads.
func TestMayOfRadius(t *testing.T) {
	for r := range 9 {
		may(t, []api.Rung{rung(), rung(0, r)}, true)
		may(t, []api.Rung{rung(), rung(0, 1, 0, r)}, true)
		may(t, []api.Rung{rung(), rung(0, r), rung()}, true)
	}
	for _, r := range []int{least, least + 1, -9, -8, -2, -1, 9, 10, 16, 1 << 32, greatest - 8, greatest} {
		may(t, []api.Rung{rung(), rung(0, r)}, false)
		may(t, []api.Rung{rung(), rung(0, 1, 0, r)}, false)
		may(t, []api.Rung{rung(), rung(0, r, 0, 1)}, false)
		may(t, []api.Rung{rung(), rung(0, r), rung()}, false)
		may(t, []api.Rung{rung(), rung(0, 3), rung(1, r)}, false)
		may(t, []api.Rung{rung(), rung(0, r), rung(1, 3)}, false)
	}
	// One below 0 takes nothing off another one.
	may(t, []api.Rung{rung(), rung(0, 8), rung(1, -1)}, false)
}

// P12.2: Radii that come to 8 over several stages may be, those that come to 9 not: for the last stage, for one below it that nobody needs, and by one way of several.
func TestMayOfFarStages(t *testing.T) {
	may(t, row(9, 1), true)
	may(t, row(10, 1), false)
	may(t, row(5, 2), true)
	may(t, row(6, 2), false)
	may(t, row(2, 8), true)
	may(t, row(3, 8), false)
	for r := range 9 {
		for q := range 9 {
			l := []api.Rung{rung(), rung(0, r), rung(1, q)}
			may(t, l, r+q <= 8)
			may(t, append(same(l), rung()), r+q <= 8)
			may(t, append(same(l), rung(0, 8)), r+q <= 8)
			may(t, append(same(l), rung(0, 8, 1, 0), rung(3, 0)), r+q <= 8)
			may(t, append(same(l), rung(2, 0)), r+q <= 8)
			may(t, []api.Rung{rung(), rung(0, r), rung(0, 0, 1, q, 0, 8)}, r+q <= 8)
			may(t, []api.Rung{rung(), rung(0, r), rung(0, 1), rung(2, 1, 1, q)}, r+q <= 8)
		}
	}
}

// P12.2: May of ladders of all sorts, by each way down the ladder on its own.
func TestMayOfAnyLadder(t *testing.T) {
	r := rand.New(rand.NewSource(12))
	var yes, no int
	for range 4000 {
		l := some(r)
		if r.Intn(4) == 0 {
			s := r.Intn(len(l))
			l[s].Reads = append(l[s].Reads, api.Read{Stage: r.Intn(len(l)+2) - 1, Radius: r.Intn(12) - 1})
		}
		want := fits(l)
		may(t, l, want)
		if want {
			yes++
		} else {
			no++
			for s := -1; s <= len(l); s++ {
				nothing(t, l, s)
			}
		}
	}
	if yes < 500 || no < 500 {
		t.Errorf("%d may be, %d not: too few of one sort", yes, no)
	}
}

// P12.2, P12.3, P12.4: of a stage that a ladder does not have there is nothing; of its first and its last one there is.
func TestStagesThatAreNot(t *testing.T) {
	for _, l := range [][]api.Rung{nil, {}, {{}}, row(3, 1), World(), row(16, 0)} {
		for _, s := range append(noStages(), len(l), len(l)+1) {
			nothing(t, l, s)
		}
		for s := range l {
			if len(Radii(l, s)) != len(l) || Cap(l, s) < 1 || len(Tasks(l, s, api.At{})) < 1 {
				t.Errorf("nothing of stage %d of %v", s, l)
			}
		}
	}
	spreads(t, []api.Rung{{}}, 0, 0)
	if got := Tasks([]api.Rung{{}}, 0, api.At{X: 4, Z: 5}); !slices.Equal(got, []api.Task{{Stage: 0, C: api.At{X: 4, Z: 5}}}) {
		t.Errorf("one stage: %v", got)
	}
}

// P12.2, P12.3, P12.4: of a ladder that may not be there is nothing, also of stages that are well and need nothing that is not.
func TestLaddersThatMayNotBe(t *testing.T) {
	for _, l := range [][]api.Rung{
		make([]api.Rung, 17),
		row(17, 0),
		reading(17),
		append(World(), api.Rung{Reads: make([]api.Read, 17)}),
		append(World(), rung(6, 0)),
		append(World(), rung(7, 0)),
		append(World(), rung(-1, 0)),
		append(World(), rung(least, greatest)),
		append(World(), rung(0, -1)),
		append(World(), rung(0, 9)),
		append(World(), rung(0, greatest)),
		append(World(), rung(5, 7)),
		append(World(), rung(5, 7), rung()),
		{rung(0, 0), rung(0, 1)},
		{rung(1, 0), rung(0, 0)},
		row(3, 8),
	} {
		may(t, l, false)
		for s := -1; s <= len(l); s++ {
			nothing(t, l, s)
		}
		for _, s := range noStages() {
			nothing(t, l, s)
		}
	}
}

// P12.3, P12.5: Cap, with the examples, and that a stage which is not needed adds nothing.
func TestCap(t *testing.T) {
	for _, x := range []struct {
		l     []api.Rung
		stage int
		want  int
	}{
		{World(), 0, 1},
		{World(), 1, 2},
		{World(), 2, 19},
		{World(), 3, 20},
		{World(), 4, 21},
		{World(), 5, 78},
		{World(), api.StLight, api.DemandCap},
		{[]api.Rung{{}}, 0, 1},
		{make([]api.Rung, 16), 7, 1},
		{row(16, 0), 15, 16},
		{row(2, 8), 1, 290},
		{row(9, 1), 8, 1 + 9 + 25 + 49 + 81 + 121 + 169 + 225 + 289},
		{[]api.Rung{rung(), rung(0, 1, 0, 3)}, 1, 50},
		{[]api.Rung{rung(), rung(), rung(0, 2)}, 2, 26},
	} {
		if got := Cap(x.l, x.stage); got != x.want {
			t.Errorf("Cap(%v, %d) is %d, not %d", x.l, x.stage, got, x.want)
		}
	}
}

// P12.3: all tasks of the caves of a chunk, one by one, by rising stages, and within one by rising Z, then rising X.
func TestTasksOfCaves(t *testing.T) {
	for _, c := range places() {
		near := []api.At{
			{X: c.X - 1, Z: c.Z - 1}, {X: c.X, Z: c.Z - 1}, {X: c.X + 1, Z: c.Z - 1},
			{X: c.X - 1, Z: c.Z}, {X: c.X, Z: c.Z}, {X: c.X + 1, Z: c.Z},
			{X: c.X - 1, Z: c.Z + 1}, {X: c.X, Z: c.Z + 1}, {X: c.X + 1, Z: c.Z + 1},
		}
		want := slices.Concat(tasksOf(0, near), tasksOf(1, near), tasksOf(2, near[4:5]))
		if got := Tasks(World(), api.StCaves, c); !slices.Equal(got, want) {
			t.Errorf("Tasks of the caves of %v are %v", c, got)
		}
	}
}

// P12.3: tasks of the world's stages are squares of chunks as wide as Radii tell, in grid's order; those of stages that are not needed are none.
func TestTasksOfWorld(t *testing.T) {
	for _, c := range places() {
		for stage, radii := range [][]int{{0}, {0, 0}, {1, 1, 0}, {1, 1, 0, 0}, {1, 1, 0, 0, 0}, {2, 2, 1, 1, 1, 0}} {
			var want []api.Task
			for s, r := range radii {
				want = append(want, tasksOf(s, grid.Near(c, r))...)
			}
			if got := Tasks(World(), stage, c); !slices.Equal(got, want) {
				t.Errorf("Tasks of stage %d of %v are %v", stage, c, got)
			}
		}
	}
	far := api.At{X: greatest, Z: least}
	want := append(tasksOf(0, square(far, 8)), api.Task{Stage: 2, C: far})
	if got := Tasks([]api.Rung{rung(), rung(0, 1), rung(0, 8), rung()}, 2, far); !slices.Equal(got, want) {
		t.Errorf("%d tasks within 8", len(got))
	}
}

// P12.4: what each of the world's stages reads, by the order of its reads.
func TestNeedsOfWorld(t *testing.T) {
	for _, c := range places() {
		for stage, want := range [][]api.Task{
			nil,
			tasksOf(0, []api.At{c}),
			tasksOf(1, square(c, 1)),
			tasksOf(2, []api.At{c}),
			append(tasksOf(3, []api.At{c}), tasksOf(0, square(c, 1))...),
			tasksOf(4, square(c, 1)),
		} {
			if got := Needs(World(), api.Task{Stage: stage, C: c}); !slices.Equal(got, want) {
				t.Errorf("Needs of stage %d of %v are %v", stage, c, got)
			}
		}
	}
}

// P12.4: reads stand in their order, not in that of the stages; one stage that is read twice stands twice, each time within that read's Radius.
func TestNeedsInOrder(t *testing.T) {
	c := api.At{X: -5, Z: 9}
	for _, pairs := range [][]int{
		{2, 1, 0, 2, 1, 0},
		{0, 2, 1, 0, 2, 1},
		{1, 1, 1, 3},
		{1, 3, 1, 1},
		{1, 2, 0, 0, 1, 2},
		{2, 8},
		{},
	} {
		l := []api.Rung{rung(), rung(0, 0), rung(), rung(pairs...), rung(3, 0)}
		var want []api.Task
		for _, read := range l[3].Reads {
			want = append(want, tasksOf(read.Stage, square(c, read.Radius))...)
		}
		if got := Needs(l, api.Task{Stage: 3, C: c}); !slices.Equal(got, want) {
			t.Errorf("Needs with reads %v are %v", pairs, got)
		}
	}
}

// P12.2, P12.3, P12.4: ladders of all sorts, held against the tasks that are found by following each read from chunk to chunk.
func TestAnyLadder(t *testing.T) {
	r := rand.New(rand.NewSource(35))
	for range 300 {
		l := some(r)
		if !fits(l) {
			continue
		}
		c := places()[r.Intn(len(places()))]
		for stage := range l {
			all := needed(l, api.Task{Stage: stage, C: c})
			radii := slices.Repeat([]int{-1}, len(l))
			for x := range all {
				radii[x.Stage] = max(radii[x.Stage], away(x.C, c))
			}
			spreads(t, l, stage, radii...)
			tasks := Tasks(l, stage, c)
			if len(tasks) != len(all) || Cap(l, stage) != len(all) {
				t.Fatalf("%d tasks of stage %d of %v, and Cap %d, not %d", len(tasks), stage, l, Cap(l, stage), len(all))
			}
			var want []api.Task
			for s, r := range radii {
				want = append(want, tasksOf(s, square(c, r))...)
			}
			if !slices.Equal(tasks, want) {
				t.Fatalf("Tasks(%v, %d, %v) are %v", l, stage, c, tasks)
			}
			closed(t, l, tasks)
		}
	}
}

// closed checks that each task stands once, with all that it needs ahead of it, and that each but the last one is needed by another one.
func closed(t *testing.T, l []api.Rung, tasks []api.Task) {
	t.Helper()
	ahead, wanted := map[api.Task]bool{}, map[api.Task]bool{}
	for _, x := range tasks {
		for _, n := range Needs(l, x) {
			if !ahead[n] {
				t.Fatalf("%v needs %v, which is not ahead of it", x, n)
			}
			wanted[n] = true
		}
		if ahead[x] {
			t.Fatalf("%v stands twice", x)
		}
		ahead[x] = true
	}
	for i, x := range tasks {
		if last := i == len(tasks)-1; wanted[x] == last {
			t.Fatalf("task %d of %d, %v: needed is %v", i, len(tasks), x, wanted[x])
		}
	}
}

// P12.5: the tasks of the world's stages, and of ladders at the edges, stand once each, in the order of their needs; Cap is how many they are.
func TestTasksAreClosed(t *testing.T) {
	for _, l := range [][]api.Rung{
		{{}},
		World(),
		row(16, 0),
		row(9, 1),
		row(2, 8),
		make([]api.Rung, 16),
		{rung(), rung(0, 1, 0, 3), rung(1, 2, 0, 4, 1, 0)},
		{rung(), rung(), rung(0, 8), rung(1, 0), rung(2, 0, 0, 1), rung(4, 0)},
	} {
		for stage := range l {
			for _, c := range places() {
				tasks := Tasks(l, stage, c)
				if Cap(l, stage) != len(tasks) {
					t.Errorf("Cap(%v, %d) is %d, not %d", l, stage, Cap(l, stage), len(tasks))
				}
				closed(t, l, tasks)
				if last := tasks[len(tasks)-1]; last != (api.Task{Stage: stage, C: c}) {
					t.Errorf("the last task of stage %d of %v is %v", stage, c, last)
				}
			}
		}
	}
}

// P12.5: 78 tasks of 25 chunks are all that the light of one chunk needs.
func TestTasksOfLight(t *testing.T) {
	for _, c := range places() {
		tasks := Tasks(World(), api.StLight, c)
		chunks := map[api.At]int{}
		for _, x := range tasks {
			chunks[x.C]++
		}
		if len(tasks) != api.DemandCap {
			t.Errorf("%d tasks of %v", len(tasks), c)
		}
		if len(chunks) != api.PinCap || chunks[c] != 6 {
			t.Errorf("%d chunks about %v, %d tasks of its own", len(chunks), c, chunks[c])
		}
	}
}

// R3, R5: a ladder that is handed in stays as it was, whatever is asked of it and whether it may be; and what is asked twice is answered alike.
func TestLadderStays(t *testing.T) {
	for _, l := range [][]api.Rung{
		World(),
		{rung(), rung(0, 3, 0, 1), rung(1, 0, 0, 2)},
		row(3, 8),
		make([]api.Rung, 17),
		append(World(), rung(0, 9, -1, 3)),
	} {
		was := same(l)
		for s := -1; s <= len(l); s++ {
			x := api.Task{Stage: s, C: api.At{X: 1, Z: 2}}
			m, r, n, tasks, needs := May(l), Radii(l, s), Cap(l, s), Tasks(l, s, x.C), Needs(l, x)
			if !reflect.DeepEqual(l, was) {
				t.Fatalf("%v has become %v", was, l)
			}
			if May(l) != m || !slices.Equal(Radii(l, s), r) || Cap(l, s) != n || !slices.Equal(Tasks(l, s, x.C), tasks) || !slices.Equal(Needs(l, x), needs) {
				t.Fatalf("stage %d of %v is told otherwise a second time", s, l)
			}
		}
	}
}

// R3: what was answered may be changed: nothing else hangs on it, and a ladder that is changed behind a call changes nothing of what was answered.
func TestAnswersAreOnesOwn(t *testing.T) {
	l := World()
	x := api.Task{Stage: api.StBuild, C: api.At{X: 1, Z: 2}}
	radii, tasks, needs := Radii(l, 5), Tasks(l, 5, x.C), Needs(l, x)
	wantRadii, wantTasks, wantNeeds := slices.Clone(radii), slices.Clone(tasks), slices.Clone(needs)

	for i := range radii {
		radii[i] = 7
	}
	for i := range tasks {
		tasks[i] = api.Task{Stage: 7}
	}
	for i := range needs {
		needs[i] = api.Task{Stage: 7}
	}
	if !reflect.DeepEqual(l, World()) {
		t.Errorf("the ladder is %v", l)
	}
	radii, tasks, needs = Radii(l, 5), Tasks(l, 5, x.C), Needs(l, x)
	if !slices.Equal(radii, wantRadii) || !slices.Equal(tasks, wantTasks) || !slices.Equal(needs, wantNeeds) {
		t.Error("what was answered first has changed what is answered now")
	}

	for s := range l {
		l[s].Reads = nil
	}
	if !slices.Equal(radii, wantRadii) || !slices.Equal(tasks, wantTasks) || !slices.Equal(needs, wantNeeds) {
		t.Error("the ladder has changed what was answered")
	}
}
