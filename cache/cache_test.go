package cache

import (
	"maps"
	"math"
	"math/rand"
	"slices"
	"testing"

	"outcrop/api"
)

// entry is a chunk that is kept, told apart from the program.
type entry struct {
	at     api.At
	v      int
	pinned bool
}

// model is what a cache should be, told apart from the program: all that are kept, the one that was used least recently first.
type model struct {
	most int
	l    []entry
}

// find is the number of a chunk in the list; -1, if it is not kept.
func (m *model) find(at api.At) int {
	return slices.IndexFunc(m.l, func(e entry) bool { return e.at == at })
}

func (m *model) put(at api.At, v int) {
	e := entry{at: at, v: v}
	if i := m.find(at); i >= 0 {
		e.pinned = m.l[i].pinned
		m.l = slices.Delete(m.l, i, i+1)
	}
	m.l = append(m.l, e)
}

func (m *model) get(at api.At) (int, bool) {
	i := m.find(at)
	if i < 0 {
		return 0, false
	}
	e := m.l[i]
	m.l = append(slices.Delete(m.l, i, i+1), e)
	return e.v, true
}

// turn makes a chunk pinned, or not, and tells whether it was the other way.
func (m *model) turn(at api.At, pinned bool) bool {
	i := m.find(at)
	if i < 0 || m.l[i].pinned == pinned {
		return false
	}
	m.l[i].pinned = pinned
	return true
}

func (m *model) drop(at api.At) bool {
	i := m.find(at)
	if i < 0 || m.l[i].pinned {
		return false
	}
	m.l = slices.Delete(m.l, i, i+1)
	return true
}

func (m *model) pinned() int {
	n := 0
	for _, e := range m.l {
		if e.pinned {
			n++
		}
	}
	return n
}

func (m *model) trim() []api.At {
	var gone []api.At
	for len(m.l)-m.pinned() > m.most {
		i := slices.IndexFunc(m.l, func(e entry) bool { return !e.pinned })
		gone = append(gone, m.l[i].at)
		m.l = slices.Delete(m.l, i, i+1)
	}
	return gone
}

func (m *model) keys() []api.At {
	var l []api.At
	for _, e := range m.l {
		l = append(l, e.at)
	}
	return l
}

// at is the chunk of that X.
func at(x int) api.At { return api.At{X: x} }

// ats are the chunks of these X.
func ats(xs ...int) []api.At {
	var l []api.At
	for _, x := range xs {
		l = append(l, at(x))
	}
	return l
}

// made is a cache of New, in which these chunks were put one behind the other, each with its X.
func made(t *testing.T, most int, xs ...int) *Cache[int] {
	t.Helper()
	c := New[int](most)
	if c == nil {
		t.Fatalf("New(%d): none", most)
	}
	for _, x := range xs {
		c.Put(at(x), x)
	}
	return c
}

// keeps checks all that are kept, in the order of their use.
func keeps(t *testing.T, what string, c *Cache[int], xs ...int) {
	t.Helper()
	if l := c.Keys(); !slices.Equal(l, ats(xs...)) {
		t.Errorf("%s: Keys %v, not %v", what, l, ats(xs...))
	}
}

// trims checks what Trim lets go, in the order of their use.
func trims(t *testing.T, what string, c *Cache[int], xs ...int) {
	t.Helper()
	if l := c.Trim(); !slices.Equal(l, ats(xs...)) {
		t.Errorf("%s: Trim %v, not %v", what, l, ats(xs...))
	}
}

// has checks what a chunk has, which is a use of it.
func has(t *testing.T, what string, c *Cache[int], x, want int) {
	t.Helper()
	if v, is := c.Get(at(x)); v != want || !is {
		t.Errorf("%s: Get %d: %d, %v", what, x, v, is)
	}
}

// hasNot checks that a chunk is not kept.
func hasNot(t *testing.T, what string, c *Cache[int], x int) {
	t.Helper()
	if v, is := c.Get(at(x)); v != 0 || is {
		t.Errorf("%s: Get %d: %d, %v", what, x, v, is)
	}
}

// like checks all that a cache tells without a use against a model.
func like(t *testing.T, what string, c *Cache[int], m *model) {
	t.Helper()
	if l := c.Keys(); !slices.Equal(l, m.keys()) {
		t.Fatalf("%s: Keys %v, not %v", what, l, m.keys())
	}
	if n := c.Pinned(); n != m.pinned() {
		t.Fatalf("%s: Pinned %d, not %d", what, n, m.pinned())
	}
}

// answers checks one bool.
func answers(t *testing.T, what string, got, want bool) {
	t.Helper()
	if got != want {
		t.Errorf("%s: %v", what, got)
	}
}

// pins checks how many are pinned.
func pins(t *testing.T, what string, c *Cache[int], want int) {
	t.Helper()
	if n := c.Pinned(); n != want {
		t.Errorf("%s: Pinned %d, not %d", what, n, want)
	}
}

// P21.1 to P21.3: the chapter's example.
func TestExample(t *testing.T) {
	c := made(t, 2, 1, 2, 3)
	has(t, "example", c, 1, 1)
	answers(t, "Pin 2", c.Pin(at(2)), true)
	trims(t, "one of three is pinned", c)
	answers(t, "Unpin 2", c.Unpin(at(2)), true)
	trims(t, "none is pinned", c, 2)
	keeps(t, "at last", c, 3, 1)
}

// P21.1: of less than 1 there is none.
func TestNewOfTooFew(t *testing.T) {
	for _, most := range []int{0, -1, -2, -16, math.MinInt32, -1 << 32, math.MinInt + 1, math.MinInt} {
		if New[int](most) != nil || New[string](most) != nil {
			t.Errorf("New(%d): there is one", most)
		}
	}
}

// P21.1 to P21.3: a new cache is empty, and keeps all that is put till Trim, whatever most is.
func TestNew(t *testing.T) {
	for _, most := range []int{1, 2, 3, 9, 40, 1000, math.MaxInt32, 1 << 32, 1<<32 + 1, 1 << 62, math.MaxInt - 1, math.MaxInt} {
		c := made(t, most)
		keeps(t, "new", c)
		trims(t, "new", c)
		pins(t, "new", c, 0)
		hasNot(t, "new", c, 0)
		m := &model{most: most}
		for x := range 50 {
			c.Put(at(x), x+1)
			m.put(at(x), x+1)
			like(t, "put", c, m)
		}
		if l, want := c.Trim(), m.trim(); !slices.Equal(l, want) {
			t.Errorf("New(%d): Trim %v, not %v", most, l, want)
		}
		like(t, "trimmed", c, m)
	}
}

// ofType checks that a cache keeps two things of one type, and its zero value beside false.
func ofType[V any](t *testing.T, same func(V, V) bool, first, second V) {
	t.Helper()
	var zero V
	c := New[V](1)
	if v, is := c.Get(at(1)); is || !same(v, zero) {
		t.Errorf("%T: of none there is %v", zero, v)
	}
	c.Put(at(1), first)
	c.Put(at(2), second)
	v, is := c.Get(at(1))
	w, too := c.Get(at(2))
	if !is || !too || !same(v, first) || !same(w, second) {
		t.Errorf("%T: Get: %v %v, %v %v", zero, v, is, w, too)
	}
	c.Put(at(1), second)
	if v, is := c.Get(at(1)); !is || !same(v, second) {
		t.Errorf("%T: Get behind Put: %v %v", zero, v, is)
	}
	if l := c.Trim(); !slices.Equal(l, ats(2)) {
		t.Errorf("%T: Trim: %v", zero, l)
	}
	if v, is := c.Get(at(2)); is || !same(v, zero) {
		t.Errorf("%T: of what is let go there is %v", zero, v)
	}
	c.Put(at(3), zero)
	if v, is := c.Get(at(3)); !is || !same(v, zero) {
		t.Errorf("%T: of the zero value: %v %v", zero, v, is)
	}
}

// equal holds two values against each other.
func equal[V comparable](a, b V) bool { return a == b }

// P21.1 to P21.3: caches of several types of what is kept; the zero value may be kept as any other.
func TestTypes(t *testing.T) {
	one, two := 1, 2
	ofType(t, equal[int], 5, -6)
	ofType(t, equal[string], "a", "b")
	ofType(t, equal[bool], true, true)
	ofType(t, equal[byte], 255, 1)
	ofType(t, equal[float64], 0.5, math.Inf(1))
	ofType(t, equal[*int], &one, &two)
	ofType(t, equal[any], 7, "seven")
	ofType(t, equal[struct{}], struct{}{}, struct{}{})
	ofType(t, equal[api.Task], api.Task{Stage: 1, C: at(4)}, api.Task{C: at(5)})
	ofType(t, equal[[3]int], [3]int{1, 2, 3}, [3]int{4})
	ofType(t, equal[*Cache[int]], made(t, 1), made(t, 2))
	ofType(t, slices.Equal[[]byte], []byte{1}, []byte{2, 3})
	ofType(t, maps.Equal[map[int]int], map[int]int{1: 1}, map[int]int{2: 3})
	ofType(t, func(a, b func() int) bool { return (a == nil) == (b == nil) && (a == nil || a() == b()) }, func() int { return 1 }, func() int { return 2 })
}

// P21.1: a Put of a chunk that is kept has the new thing, is a use, and keeps no chunk twice; pinned it stays pinned.
func TestPutAgain(t *testing.T) {
	for _, pinned := range []bool{false, true} {
		for x := range 5 {
			c := made(t, 3, 0, 1, 2, 3, 4)
			if pinned {
				c.Pin(at(x))
			}
			many := c.Pinned()
			c.Put(at(x), x+100)
			pins(t, "put again", c, many)
			order := slices.DeleteFunc([]int{0, 1, 2, 3, 4}, func(y int) bool { return y == x })
			keeps(t, "put again", c, append(order, x)...)
			has(t, "put again", c, x, x+100)
			answers(t, "Pin behind it", c.Pin(at(x)), !pinned)
			c.Unpin(at(x))
			trims(t, "put again", c, order[0], order[1])
			has(t, "and trimmed", c, x, x+100)
		}
	}
}

// P21.1: a Get is a use of what is kept, pinned or not, and changes nothing of what it has.
func TestGet(t *testing.T) {
	for _, pinned := range []bool{false, true} {
		for x := range 5 {
			c := made(t, 2, 0, 1, 2, 3, 4)
			if pinned {
				c.Pin(at(x))
			}
			many := c.Pinned()
			for range 3 {
				has(t, "got", c, x, x)
				order := slices.DeleteFunc([]int{0, 1, 2, 3, 4}, func(y int) bool { return y == x })
				keeps(t, "got", c, append(order, x)...)
				pins(t, "got", c, many)
			}
			c.Unpin(at(x))
			order := slices.DeleteFunc([]int{0, 1, 2, 3, 4}, func(y int) bool { return y == x })
			trims(t, "got", c, order[:3]...)
			keeps(t, "got and trimmed", c, order[3], x)
		}
	}
}

// P21.1: a Get of what is not kept answers the zero value and false, keeps nothing and is no use.
func TestGetOfNone(t *testing.T) {
	c := made(t, 2, 4, 5, 6)
	c.Pin(at(5))
	for _, x := range []int{7, 0, -4, 3, 4 + 1<<32, math.MaxInt, math.MinInt} {
		for range 2 {
			hasNot(t, "of none", c, x)
			keeps(t, "of none", c, 4, 5, 6)
			pins(t, "of none", c, 1)
		}
	}
	c.Put(at(8), 8)
	trims(t, "of none", c, 4)
}

// places are chunks that are alike in one number, or in the lowest or the highest bits.
func places() []api.At {
	ends := []int{
		0, 1, -1, 2, -2, 15, 16, -16, 65535, 65536, -65536, 1 << 31, -1 << 31, 1 << 32, 1<<32 + 1, -1 << 32,
		1 << 62, math.MaxInt - 1, math.MaxInt, math.MinInt, math.MinInt + 1,
	}
	var l []api.At
	for _, x := range ends {
		for _, z := range ends {
			l = append(l, api.At{X: x, Z: z})
		}
	}
	return l
}

// P21.1 to P21.3: chunks that differ in X alone, in Z alone or in both, below 0 and at the ends of the numbers, are each one of its own.
func TestPlaces(t *testing.T) {
	l := places()
	c := New[int](len(l) / 2)
	for i, a := range l {
		if _, is := c.Get(a); is {
			t.Fatalf("%v is there already", a)
		}
		c.Put(a, i)
	}
	if !slices.Equal(c.Keys(), l) {
		t.Fatal("Keys are not all in their order")
	}
	for i, a := range l {
		if v, is := c.Get(a); v != i || !is {
			t.Fatalf("Get %v: %d, %v", a, v, is)
		}
	}
	for i, a := range l {
		if i%3 == 0 && (!c.Pin(a) || c.Pinned() != i/3+1) {
			t.Fatalf("Pin %v", a)
		}
	}
	m := &model{most: len(l) / 2}
	for i, a := range l {
		m.put(a, i)
		if i%3 == 0 {
			m.turn(a, true)
		}
	}
	if gone := c.Trim(); !slices.Equal(gone, m.trim()) {
		t.Errorf("Trim: %v", gone)
	}
	like(t, "trimmed", c, m)
	for i, a := range l {
		answers(t, "Unpin", c.Unpin(a), i%3 == 0)
		answers(t, "Drop", c.Drop(a), m.find(a) >= 0)
	}
	keeps(t, "all dropped", c)
}

// P21.2: what Pin, Unpin and Drop answer of what is not kept, of what is pinned and of what is not, each twice in a row; a refusal changes nothing.
func TestTwice(t *testing.T) {
	c := made(t, 1, 1, 2)
	for range 2 {
		answers(t, "Pin of none", c.Pin(at(3)), false)
		answers(t, "Unpin of none", c.Unpin(at(3)), false)
		answers(t, "Drop of none", c.Drop(at(3)), false)
		answers(t, "Unpin of what is not pinned", c.Unpin(at(1)), false)
		keeps(t, "refused", c, 1, 2)
		pins(t, "refused", c, 0)
	}
	for _, want := range []bool{true, false} {
		answers(t, "Pin", c.Pin(at(1)), want)
		pins(t, "Pin", c, 1)
		keeps(t, "Pin", c, 1, 2)
	}
	for range 2 {
		answers(t, "Drop of what is pinned", c.Drop(at(1)), false)
		pins(t, "Drop of what is pinned", c, 1)
		keeps(t, "Drop of what is pinned", c, 1, 2)
	}
	for _, want := range []bool{true, false} {
		answers(t, "Unpin", c.Unpin(at(1)), want)
		pins(t, "Unpin", c, 0)
		keeps(t, "Unpin", c, 1, 2)
	}
	for _, want := range []bool{true, false} {
		answers(t, "Drop", c.Drop(at(1)), want)
		pins(t, "Drop", c, 0)
		keeps(t, "Drop", c, 2)
	}
	hasNot(t, "dropped", c, 1)
	has(t, "the other one", c, 2, 2)
}

// P21.2: what is done to one chunk is done to that one alone, wherever it stands among the others.
func TestOneOfMany(t *testing.T) {
	for x := range 12 {
		c, m := made(t, 12), &model{most: 12}
		for y := range 12 {
			c.Put(at(y), y)
			m.put(at(y), y)
		}
		answers(t, "Pin", c.Pin(at(x)), m.turn(at(x), true))
		like(t, "Pin", c, m)
		for y := range 12 {
			answers(t, "Unpin", c.Unpin(at(y)), y == x)
			answers(t, "Pin of each", c.Pin(at(y)), true)
			answers(t, "Unpin of each", c.Unpin(at(y)), true)
		}
		m.turn(at(x), false)
		like(t, "Unpin", c, m)
		answers(t, "Drop", c.Drop(at(x)), m.drop(at(x)))
		like(t, "Drop", c, m)
		for y := range 12 {
			v, is := c.Get(at(y))
			if want, kept := m.get(at(y)); v != want || is != kept {
				t.Errorf("Get %d behind Drop %d: %d, %v", y, x, v, is)
			}
		}
		for y := range 11 {
			c.Put(at(y+100), 0)
			m.put(at(y+100), 0)
		}
		if l, want := c.Trim(), m.trim(); !slices.Equal(l, want) || len(want) != 10 {
			t.Errorf("Trim behind Drop %d: %v, not %v", x, l, want)
		}
		like(t, "Trim", c, m)
	}
}

// P21.2, P21.3: no Pin, Unpin or Drop, done or refused, is a use, nor is what Trim, Keys and Pinned do: Trim lets go by the use ahead of them.
func TestNoUses(t *testing.T) {
	for x := range 6 {
		c := made(t, 3, 0, 1, 2, 3, 4, 5)
		c.Pin(at(x))
		c.Pin(at(x))
		keeps(t, "pinned", c, 0, 1, 2, 3, 4, 5)
		c.Drop(at(x))
		c.Unpin(at(x))
		c.Unpin(at(x))
		c.Drop(at(9))
		c.Pin(at(9))
		pins(t, "unpinned", c, 0)
		keeps(t, "unpinned", c, 0, 1, 2, 3, 4, 5)
		trims(t, "unpinned", c, 0, 1, 2)
		keeps(t, "trimmed", c, 3, 4, 5)
		trims(t, "trimmed", c)
		keeps(t, "trimmed again", c, 3, 4, 5)
	}
}

// P21.1 to P21.3: what was dropped or trimmed is not kept and may be Put again: as a new one, unpinned, used last, with the new thing.
func TestPutBehindLettingGo(t *testing.T) {
	for _, dropped := range []bool{false, true} {
		c := made(t, 2, 1, 2, 3)
		c.Pin(at(1))
		c.Unpin(at(1))
		if dropped {
			answers(t, "Drop", c.Drop(at(1)), true)
		} else {
			trims(t, "one too many", c, 1)
		}
		keeps(t, "let go", c, 2, 3)
		answers(t, "Pin of what is let go", c.Pin(at(1)), false)
		answers(t, "Unpin of what is let go", c.Unpin(at(1)), false)
		answers(t, "Drop of what is let go", c.Drop(at(1)), false)
		hasNot(t, "let go", c, 1)
		pins(t, "let go", c, 0)
		c.Put(at(1), 11)
		keeps(t, "put again", c, 2, 3, 1)
		pins(t, "put again", c, 0)
		has(t, "put again", c, 1, 11)
		trims(t, "put again", c, 2)
		answers(t, "Drop of what was put again", c.Drop(at(1)), true)
		keeps(t, "dropped again", c, 3)
	}
}

// P21.3: Trim with fewer, with just so many, and with more than most that are not pinned; once more behind itself it lets none go.
func TestTrim(t *testing.T) {
	for most := 1; most <= 12; most++ {
		for many := range 30 {
			var xs []int
			for x := range many {
				xs = append(xs, x)
			}
			c := made(t, most, xs...)
			stay := max(0, many-most)
			trims(t, "first", c, xs[:stay]...)
			keeps(t, "trimmed", c, xs[stay:]...)
			trims(t, "once more", c)
			keeps(t, "trimmed once more", c, xs[stay:]...)
			for _, x := range xs[:stay] {
				hasNot(t, "let go", c, x)
			}
			for _, x := range xs[stay:] {
				has(t, "kept", c, x, x)
			}
		}
	}
}

// P21.3: Trim leaves pinned ones, also those that were used least recently, and doesn't count them; Keys has them in their order.
func TestTrimAroundPinned(t *testing.T) {
	c := made(t, 2, 1, 2, 3, 4, 5, 6, 7)
	for i, x := range []int{1, 2, 5} {
		answers(t, "Pin", c.Pin(at(x)), true)
		pins(t, "Pin", c, i+1)
	}
	trims(t, "three are pinned", c, 3, 4)
	pins(t, "trimmed", c, 3)
	keeps(t, "trimmed", c, 1, 2, 5, 6, 7)
	c.Unpin(at(2))
	trims(t, "one is let loose", c, 2)
	has(t, "a use of a pinned one", c, 1, 1)
	keeps(t, "a use of a pinned one", c, 5, 6, 7, 1)
	c.Unpin(at(1))
	c.Unpin(at(5))
	pins(t, "all are loose", c, 0)
	trims(t, "all are loose", c, 5, 6)
	keeps(t, "at last", c, 7, 1)
}

// P21.3: if all are pinned, none goes, however many there are.
func TestAllPinned(t *testing.T) {
	c := made(t, 1, 1, 2, 3, 4, 5)
	for x := 1; x <= 5; x++ {
		c.Pin(at(x))
		answers(t, "Drop", c.Drop(at(x)), false)
	}
	trims(t, "all are pinned", c)
	keeps(t, "all are pinned", c, 1, 2, 3, 4, 5)
	pins(t, "all are pinned", c, 5)
	c.Put(at(3), 33)
	trims(t, "one is put again", c)
	c.Put(at(6), 6)
	trims(t, "one is loose", c)
	c.Put(at(7), 7)
	trims(t, "two are loose", c, 6)
	for x := 5; x >= 1; x-- {
		answers(t, "Unpin", c.Unpin(at(x)), true)
		pins(t, "Unpin", c, x-1)
	}
	trims(t, "all are loose", c, 1, 2, 4, 5, 3)
	keeps(t, "at last", c, 7)
}

// P21.2: a use of a pinned chunk counts when it is loose again: Pin and Unpin keep no other order.
func TestUsedWhilePinned(t *testing.T) {
	c := made(t, 1, 1, 2, 3, 4)
	for x := 1; x <= 4; x++ {
		c.Pin(at(x))
	}
	has(t, "pinned", c, 2, 2)
	c.Put(at(1), 10)
	keeps(t, "pinned", c, 3, 4, 2, 1)
	for _, x := range []int{1, 2, 4, 3} {
		c.Unpin(at(x))
		keeps(t, "unpinned", c, 3, 4, 2, 1)
	}
	trims(t, "unpinned", c, 3, 4, 2)
	has(t, "at last", c, 1, 10)
}

// P21.3: the answers of Trim and of Keys are in the order of use, whatever order the chunks were put in and used.
func TestOrders(t *testing.T) {
	r := rand.New(rand.NewSource(213))
	for many := 2; many < 40; many++ {
		c := made(t, 1, r.Perm(many)...)
		uses := r.Perm(many)
		for _, x := range uses {
			has(t, "in turn", c, x, x)
		}
		for _, x := range r.Perm(many) {
			c.Pin(at(x))
		}
		keeps(t, "pinned", c, uses...)
		for _, x := range r.Perm(many) {
			c.Unpin(at(x))
		}
		keeps(t, "unpinned", c, uses...)
		trims(t, "unpinned", c, uses[:many-1]...)
		keeps(t, "trimmed", c, uses[many-1])
	}
}

// P21.3, R3: what is done to a list that Trim or Keys has answered changes nothing of the cache nor of another answer, and later calls nothing of the list.
func TestAnswers(t *testing.T) {
	c := made(t, 3, 1, 2, 3, 4, 5, 6)
	c.Pin(at(1))
	keys, again := c.Keys(), c.Keys()
	gone := c.Trim()
	left := c.Keys()
	if !slices.Equal(keys, ats(1, 2, 3, 4, 5, 6)) {
		t.Errorf("Keys has become %v by Trim", keys)
	}
	for i := range keys {
		keys[i] = at(-7)
	}
	for i := range gone {
		gone[i] = at(5)
	}
	for i := range left {
		left[i] = at(2)
	}
	_ = append(left[:1], gone...)
	if !slices.Equal(again, ats(1, 2, 3, 4, 5, 6)) {
		t.Errorf("Keys has become %v by another answer", again)
	}
	keeps(t, "other lists", c, 1, 4, 5, 6)
	hasNot(t, "other lists", c, 2)
	hasNot(t, "other lists", c, -7)
	c.Put(at(7), 7)
	c.Put(at(8), 8)
	second := c.Trim()
	for i := range second {
		second[i] = at(9)
	}
	if !slices.Equal(gone, ats(5, 5)) || !slices.Equal(second, ats(9, 9)) {
		t.Errorf("the lists of two Trims: %v, %v", gone, second)
	}
	keeps(t, "trimmed again", c, 1, 6, 7, 8)
}

// R5: two caches are each one of its own.
func TestTwoCaches(t *testing.T) {
	c, d := made(t, 1, 1, 2, 3), made(t, 2, 1, 2, 3)
	c.Put(at(1), 10)
	c.Pin(at(2))
	d.Drop(at(3))
	keeps(t, "the first one", c, 2, 3, 1)
	keeps(t, "the second one", d, 1, 2)
	pins(t, "the second one", d, 0)
	trims(t, "the first one", c, 3)
	trims(t, "the second one", d)
	has(t, "the first one", c, 1, 10)
	has(t, "the second one", d, 1, 1)
}

// chunks are those over which the many calls go: near 0, and so many of them.
func chunks(many int) []api.At {
	var l []api.At
	for i := range many {
		l = append(l, api.At{X: i%5 - 2, Z: i/5 - 2})
	}
	return l
}

// step does one call on both, by chance, and checks that they answer the same.
func step(t *testing.T, r *rand.Rand, c *Cache[int], m *model, a api.At) {
	t.Helper()
	switch v := r.Intn(1 << 30); r.Intn(12) {
	case 0, 1, 2, 3:
		c.Put(a, v)
		m.put(a, v)
	case 4, 5:
		got, is := c.Get(a)
		if want, kept := m.get(a); got != want || is != kept {
			t.Fatalf("Get %v: %d, %v, not %d, %v", a, got, is, want, kept)
		}
	case 6, 7:
		answers(t, "Pin", c.Pin(a), m.turn(a, true))
	case 8, 9:
		answers(t, "Unpin", c.Unpin(a), m.turn(a, false))
	case 10:
		answers(t, "Drop", c.Drop(a), m.drop(a))
	case 11:
		if l, want := c.Trim(), m.trim(); !slices.Equal(l, want) {
			t.Fatalf("Trim %v, not %v", l, want)
		}
	}
}

// P21.1 to P21.4: many calls in a row, held behind each against the chapter's rule told apart from the program.
func TestManyCalls(t *testing.T) {
	for turn, many := range []int{1, 2, 3, 5, 10, 25, 100} {
		for _, most := range []int{1, 2, 3, 7, 20} {
			r := rand.New(rand.NewSource(int64(turn*100 + most)))
			c, m, l := New[int](most), &model{most: most}, chunks(many)
			for range 4000 {
				step(t, r, c, m, l[r.Intn(many)])
				like(t, "many calls", c, m)
			}
		}
	}
}

// loose are those of a list that are not pinned, as many as there are: asked by Pin, which is no use, and undone.
func loose(c *Cache[int], l []api.At) []api.At {
	var out []api.At
	for _, a := range l {
		if c.Pin(a) {
			c.Unpin(a)
			out = append(out, a)
		}
	}
	return out
}

// P21.4: behind a Trim at most most are kept beside the pinned ones, and each of them was used behind each that was let go; the pinned ones all stay, in their order.
func TestBehindTrim(t *testing.T) {
	r := rand.New(rand.NewSource(214))
	for turn := range 600 {
		most := turn%9 + 1
		c, l := New[int](most), chunks(turn%40+1)
		last := map[api.At]int{}
		for n := range 150 {
			a := l[r.Intn(len(l))]
			if r.Intn(3) > 0 {
				c.Put(a, n)
				last[a] = n
			} else if _, is := c.Get(a); is {
				last[a] = n
			}
			if r.Intn(4) == 0 {
				c.Pin(l[r.Intn(len(l))])
			}
		}
		before := c.Keys()
		wasLoose, pinned := loose(c, before), c.Pinned()
		gone := c.Trim()
		behind := c.Keys()
		stay := loose(c, behind)
		if len(stay) != min(most, len(wasLoose)) || !slices.Equal(append(slices.Clone(gone), stay...), wasLoose) {
			t.Fatalf("of %v: gone %v, kept %v, most %d", wasLoose, gone, stay, most)
		}
		for _, a := range stay {
			for _, b := range gone {
				if last[a] <= last[b] {
					t.Fatalf("%v is kept, used at %d, but not %v, used at %d", a, last[a], b, last[b])
				}
			}
		}
		let := slices.DeleteFunc(before, func(a api.At) bool { return slices.Contains(gone, a) })
		if !slices.Equal(let, behind) || c.Pinned() != pinned {
			t.Fatalf("kept %v, not %v; pinned %d, not %d", behind, let, c.Pinned(), pinned)
		}
	}
}

// P21.1 to P21.3: a long row of calls by a short rule, held against sums that were worked out in another language.
func TestKnownSums(t *testing.T) {
	c := New[int](7)
	state, sum := 1, 0
	add := func(n int) { sum = (sum*31 + n) % 1000003 }
	for i := range 30000 {
		state = (state*20077 + 12345) % 1048576
		a := api.At{X: state/64%6 - 3, Z: state/512%5 - 2}
		switch state / 4096 % 8 {
		case 0, 1, 2:
			c.Put(a, i)
		case 3:
			if v, is := c.Get(a); is {
				add(v + 1)
			}
		case 4:
			if c.Pin(a) {
				add(2)
			}
		case 5:
			if c.Unpin(a) {
				add(3)
			}
		case 6:
			if c.Drop(a) {
				add(4)
			}
		case 7:
			for _, k := range c.Trim() {
				add(k.X*10 + k.Z + 100)
			}
		}
		add(c.Pinned())
	}
	for _, k := range c.Keys() {
		add(k.X*10 + k.Z + 100)
	}
	if sum != 221783 || len(c.Keys()) != 16 || c.Pinned() != 9 {
		t.Errorf("sum %d, Keys %d, Pinned %d", sum, len(c.Keys()), c.Pinned())
	}
}

// P21.3: of very many chunks too all that are too many go, in the order of their use.
func TestVeryMany(t *testing.T) {
	const many, most = 100000, 777
	c := New[int](most)
	for i := range many {
		c.Put(api.At{X: i % 317, Z: -i / 317}, i)
	}
	gone := c.Trim()
	if len(gone) != many-most || len(c.Keys()) != most {
		t.Fatalf("gone %d, kept %d", len(gone), len(c.Keys()))
	}
	for i, a := range append(gone, c.Keys()...) {
		if (a != api.At{X: i % 317, Z: -i / 317}) {
			t.Fatalf("number %d is %v", i, a)
		}
	}
}

// P21.2, P21.3: what was dropped or trimmed is held nowhere in the cache any more, nor is it in the heap's unused places.
func TestHeldNowhere(t *testing.T) {
	c := made(t, 2, 1, 2, 3, 4, 5, 6, 7, 8)
	c.Pin(at(3))
	c.Pin(at(6))
	c.Unpin(at(6))
	c.Drop(at(5))
	trims(t, "too many", c, 1, 2, 4, 6)
	if len(c.kept) != 3 || len(c.loose) != 2 {
		t.Errorf("kept %d, of which loose %d", len(c.kept), len(c.loose))
	}
	for i, x := range c.loose[:cap(c.loose)] {
		if (x == nil) != (i >= 2) {
			t.Errorf("place %d of the heap: %v", i, x)
		}
	}
}

// R1: no cache at all, and one that New has not made, keep nothing, and none of their calls panics.
func TestNoCache(t *testing.T) {
	for _, c := range []*Cache[int]{nil, New[int](0), New[int](math.MinInt), {}, new(Cache[int])} {
		for range 2 {
			c.Put(at(1), 5)
			hasNot(t, "no cache", c, 1)
			answers(t, "Pin", c.Pin(at(1)), false)
			answers(t, "Unpin", c.Unpin(at(1)), false)
			answers(t, "Drop", c.Drop(at(1)), false)
			trims(t, "no cache", c)
			keeps(t, "no cache", c)
			pins(t, "no cache", c, 0)
		}
	}
}
