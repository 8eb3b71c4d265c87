package space

import (
	"math"
	"slices"
	"strings"
	"testing"

	"outcrop/api"
)

// A Space is told here as a text with a letter for each number: h of the head, f free, t taken.

// span is a span.
func span(from, many int) api.Span { return api.Span{From: from, Many: many} }

// fresh is what New has made: a head, and all others free.
func fresh(size, head int) string {
	return strings.Repeat("h", head) + strings.Repeat("f", size-head)
}

// made is a Space of New.
func made(t *testing.T, size, head int) *Space {
	t.Helper()
	s, e := New(size, head)
	if e != api.OK || s == nil {
		t.Fatalf("New(%d, %d): error %d", size, head, e)
	}
	return s
}

// laid is a Space that looks like that text.
func laid(t *testing.T, text string) *Space {
	t.Helper()
	s := made(t, len(text), strings.Count(text, "h"))
	for i, letter := range text {
		if letter == 't' {
			marks(t, s, span(i, 1), api.OK)
		}
	}
	return s
}

// marks checks what Mark answers.
func marks(t *testing.T, s *Space, x api.Span, want api.Errno) {
	t.Helper()
	if e := s.Mark(x); e != want {
		t.Errorf("Mark(%v): %d, not %d", x, e, want)
	}
}

// frees checks what Free answers.
func frees(t *testing.T, s *Space, x api.Span, want api.Errno) {
	t.Helper()
	if e := s.Free(x); e != want {
		t.Errorf("Free(%v): %d, not %d", x, e, want)
	}
}

// takes checks that Take answers that number, and OK.
func takes(t *testing.T, s *Space, n, want int) {
	t.Helper()
	if i, e := s.Take(n); i != want || e != api.OK {
		t.Errorf("Take(%d): %d, error %d, not %d", n, i, e, want)
	}
}

// refuses checks that Take answers that error, and nothing else.
func refuses(t *testing.T, s *Space, n int, want api.Errno) {
	t.Helper()
	if i, e := s.Take(n); i != 0 || e != want {
		t.Errorf("Take(%d): %d, error %d, not %d", n, i, e, want)
	}
}

// spansOf are the free spans of a text, cut out between what is not free.
func spansOf(text string) []api.Span {
	var l []api.Span
	for i := range text {
		if text[i] == 'f' && (i == 0 || text[i-1] != 'f') {
			rest := text[i:]
			l = append(l, span(i, len(rest)-len(strings.TrimLeft(rest, "f"))))
		}
	}
	return l
}

// largestOf is how many stand one behind the other in a text, at most.
func largestOf(text string) int {
	n := 0
	for _, free := range strings.FieldsFunc(text, func(letter rune) bool { return letter != 'f' }) {
		n = max(n, len(free))
	}
	return n
}

// shows checks Spans, Room and Largest against a text.
func shows(t *testing.T, what string, s *Space, text string) {
	t.Helper()
	if l := s.Spans(); !slices.Equal(l, spansOf(text)) {
		t.Errorf("%s: Spans are %v, not %v", what, l, spansOf(text))
	}
	if n := s.Room(); n != strings.Count(text, "f") {
		t.Errorf("%s: Room is %d, not %d", what, n, strings.Count(text, "f"))
	}
	if n := s.Largest(); n != largestOf(text) {
		t.Errorf("%s: Largest is %d, not %d", what, n, largestOf(text))
	}
}

// looks checks all of a Space against a text: what it shows, and of each number by itself whether it is free, taken, or neither.
func looks(t *testing.T, what string, s *Space, text string) {
	t.Helper()
	shows(t, what, s, text)
	for i := -1; i <= len(text); i++ {
		free := i >= 0 && i < len(text) && text[i] == 'f'
		taken := i >= 0 && i < len(text) && text[i] == 't'
		if e := s.Mark(span(i, 1)); (e == api.OK) != free || e != api.OK && e != api.ErrArg {
			t.Errorf("%s: Mark of %d alone: %d", what, i, e)
		} else if free {
			frees(t, s, span(i, 1), api.OK)
		}
		if e := s.Free(span(i, 1)); (e == api.OK) != taken || e != api.OK && e != api.ErrArg {
			t.Errorf("%s: Free of %d alone: %d", what, i, e)
		} else if taken {
			marks(t, s, span(i, 1), api.OK)
		}
	}
	shows(t, what, s, text)
}

// mayBe is the chapter's rule for a span; when the end is added up, both parts of it are small.
func mayBe(size, head int, x api.Span) bool {
	return x.Many >= 1 && x.From >= head && x.From < size && x.Many <= size && x.From+x.Many <= size
}

// painted is a text with a letter all over a span.
func painted(text string, x api.Span, letter string) string {
	return text[:x.From] + strings.Repeat(letter, x.Many) + text[x.From+x.Many:]
}

// turned is what comes of a text when a span of one letter is to have another: ErrArg, if it may not be.
func turned(text string, x api.Span, from, to string) (string, api.Errno) {
	if !mayBe(len(text), strings.Count(text, "h"), x) || strings.Trim(text[x.From:x.From+x.Many], from) != "" {
		return text, api.ErrArg
	}
	return painted(text, x, to), api.OK
}

// tookOf is what comes of a text when so many are taken of it, and where.
func tookOf(text string, n int) (string, int, api.Errno) {
	if n < 1 {
		return text, 0, api.ErrArg
	}
	i := -1
	if n <= len(text) {
		i = strings.Index(text, strings.Repeat("f", n))
	}
	if i < 0 {
		return text, 0, api.ErrFull
	}
	return painted(text, span(i, n), "t"), i, api.OK
}

// The chapter's examples, in one row.
func TestExamples(t *testing.T) {
	s := made(t, 10, 2)
	takes(t, s, 3, 2)
	takes(t, s, 4, 5)
	frees(t, s, span(2, 3), api.OK)
	takes(t, s, 2, 2)
	if l := s.Spans(); !slices.Equal(l, []api.Span{{From: 4, Many: 1}, {From: 9, Many: 1}}) {
		t.Errorf("Spans are %v", l)
	}
	refuses(t, s, 2, api.ErrFull)
	marks(t, s, span(9, 1), api.OK)
	marks(t, s, span(9, 1), api.ErrArg)
	looks(t, "behind the examples", s, "hhttfttttt")
}

// P10.1: all but the head are free; head and size at their edges.
func TestNew(t *testing.T) {
	for _, x := range [][2]int{
		{0, 0}, {1, 0}, {1, 1}, {2, 0}, {2, 1}, {2, 2}, {10, 0}, {10, 2}, {10, 9}, {10, 10}, {40, 2},
		{4095, 0}, {4095, 4095}, {4096, 0}, {4096, 1}, {4096, 2}, {4096, 4095}, {4096, 4096},
	} {
		looks(t, "New", made(t, x[0], x[1]), fresh(x[0], x[1]))
	}
}

// P10.1: a head below 0, a size below the head, a size above 4096.
func TestNewOfWhatMayNotBe(t *testing.T) {
	for _, x := range [][2]int{
		{10, -1}, {0, -1}, {-1, -1}, {4096, -1}, {4097, -1}, {10, math.MinInt}, {math.MinInt, math.MinInt}, {math.MaxInt, math.MinInt},
		{10, 11}, {0, 1}, {-1, 0}, {4096, 4097}, {4095, 4096}, {math.MinInt, 0}, {10, math.MaxInt}, {math.MinInt, math.MaxInt},
		{4097, 0}, {4097, 2}, {4097, 4096}, {4097, 4097}, {8192, 0}, {65536, 0}, {1 << 32, 0}, {1<<32 | 10, 2}, {math.MaxInt, 0}, {math.MaxInt, math.MaxInt},
	} {
		if s, e := New(x[0], x[1]); s != nil || e != api.ErrArg {
			t.Errorf("New(%d, %d): error %d", x[0], x[1], e)
		}
	}
}

// P10.2: which spans may be: From and Many at all edges, also where both together are beyond the greatest int.
func TestSpansThatMayBe(t *testing.T) {
	for _, size := range []int{0, 1, 2, 10, 40, 4096} {
		for _, head := range []int{0, 1, 2, size / 2, size - 1, size} {
			if head < 0 || head > size {
				continue
			}
			full := painted(fresh(size, head), span(head, size-head), "t")
			froms := []int{
				math.MinInt, math.MinInt + 1, -size, -2, -1, 0, 1, head - 1, head, head + 1, size / 2, size - 2, size - 1, size, size + 1,
				1<<32 | head, math.MaxInt - size, math.MaxInt - 1, math.MaxInt,
			}
			for _, from := range froms {
				manys := []int{
					math.MinInt, math.MinInt + size, -size, -2, -1, 0, 1, 2, size - from - 1, size - from, size - from + 1, size - head, size, size + 1,
					math.MaxInt - from, math.MaxInt - from + 1, math.MaxInt - size, 1<<32 | 1, math.MaxInt - 1, math.MaxInt,
				}
				for _, many := range manys {
					eitherWay(t, size, head, full, span(from, many))
				}
			}
		}
	}
}

// eitherWay checks Mark of a span where all is free, and Free of it where all is taken.
func eitherWay(t *testing.T, size, head int, full string, x api.Span) {
	t.Helper()
	want, text, rest := api.ErrArg, fresh(size, head), full
	if mayBe(size, head, x) {
		want, text, rest = api.OK, painted(text, x, "t"), painted(rest, x, "f")
	}
	s := made(t, size, head)
	marks(t, s, x, want)
	shows(t, "behind Mark", s, text)
	s = made(t, size, head)
	if size > head {
		marks(t, s, span(head, size-head), api.OK)
	}
	frees(t, s, x, want)
	shows(t, "behind Free", s, rest)
}

// P10.2: the edges by name, on the chapter's Space.
func TestSpansByName(t *testing.T) {
	for _, x := range []api.Span{
		{From: 5, Many: -1}, {From: 5, Many: 0}, {From: 5, Many: math.MaxInt}, {From: 5, Many: math.MinInt}, {From: 2, Many: 9}, {From: 8, Many: 3}, {From: 9, Many: 2},
		{From: -1, Many: 1}, {From: -1, Many: 4}, {From: 0, Many: 1}, {From: 1, Many: 1}, {From: 1, Many: 2}, {From: 0, Many: 10}, {From: 10, Many: 1}, {From: 10, Many: 0},
		{From: 11, Many: -1}, {From: math.MaxInt, Many: 1}, {From: math.MaxInt, Many: math.MaxInt}, {From: math.MinInt, Many: math.MaxInt}, {From: 2, Many: math.MaxInt - 1},
	} {
		s := laid(t, "hhffffffff")
		marks(t, s, x, api.ErrArg)
		looks(t, "behind a Mark that may not be", s, "hhffffffff")
		s = laid(t, "hhtttttttt")
		frees(t, s, x, api.ErrArg)
		looks(t, "behind a Free that may not be", s, "hhtttttttt")
	}
	for x, text := range map[api.Span]string{
		span(2, 1): "hhtfffffff", span(2, 8): "hhtttttttt", span(9, 1): "hhffffffft", span(7, 3): "hhfffffttt", span(4, 2): "hhffttffff",
	} {
		s := laid(t, "hhffffffff")
		marks(t, s, x, api.OK)
		looks(t, "behind Mark", s, text)
		frees(t, s, x, api.OK)
		looks(t, "behind Free", s, "hhffffffff")
	}
}

// P10.2: one that is taken, wherever it is in the span, refuses a Mark, and nothing has changed.
func TestMarkOfOneThatIsTaken(t *testing.T) {
	for i := 3; i < 9; i++ {
		text := painted("hhffffffffff", span(i, 1), "t")
		s := laid(t, text)
		marks(t, s, span(3, 6), api.ErrArg)
		looks(t, "behind Mark", s, text)
		marks(t, s, span(2, 10), api.ErrArg)
		looks(t, "behind Mark", s, text)
		marks(t, s, span(i, 1), api.ErrArg)
		looks(t, "behind Mark", s, text)
	}
	s := laid(t, "hhtffffffffft")
	marks(t, s, span(3, 9), api.OK)
	looks(t, "between two that are taken", s, "hhttttttttttt")
}

// P10.2: one that is free, wherever it is in the span, refuses a Free, and nothing has changed.
func TestFreeOfOneThatIsFree(t *testing.T) {
	for i := 3; i < 9; i++ {
		text := painted("hhtttttttttt", span(i, 1), "f")
		s := laid(t, text)
		frees(t, s, span(3, 6), api.ErrArg)
		looks(t, "behind Free", s, text)
		frees(t, s, span(2, 10), api.ErrArg)
		looks(t, "behind Free", s, text)
		frees(t, s, span(i, 1), api.ErrArg)
		looks(t, "behind Free", s, text)
	}
	s := laid(t, "hhftttttttttf")
	frees(t, s, span(3, 9), api.OK)
	looks(t, "between two that are free", s, "hhfffffffffff")
}

// P10.2: what was taken in one way may be let go in another: spans are not remembered.
func TestFreeOfParts(t *testing.T) {
	s := made(t, 12, 2)
	takes(t, s, 4, 2)
	takes(t, s, 3, 6)
	marks(t, s, span(9, 2), api.OK)
	frees(t, s, span(5, 5), api.OK)
	looks(t, "a Free over three of them", s, "hhtttffffftf")
	frees(t, s, span(2, 1), api.OK)
	frees(t, s, span(4, 1), api.OK)
	looks(t, "a Free of parts", s, "hhftfffffftf")
}

// P10.2: Take at its edges, the errors in their order.
func TestTake(t *testing.T) {
	for _, x := range [][2]int{{0, 0}, {1, 0}, {1, 1}, {10, 2}, {10, 10}, {4096, 0}, {4096, 2}, {4096, 4096}} {
		size, head := x[0], x[1]
		room := size - head
		s := made(t, size, head)
		for _, n := range []int{-1, 0, -room, math.MinInt, math.MinInt + 1, -1 << 32, math.MinInt + room} {
			if n < 1 {
				refuses(t, s, n, api.ErrArg)
			}
		}
		for _, n := range []int{room + 1, room + 2, size + 1, 4097, 1<<32 | 1, math.MaxInt - 1, math.MaxInt} {
			refuses(t, s, n, api.ErrFull)
		}
		looks(t, "behind a Take that is refused", s, fresh(size, head))
		if room == 0 {
			refuses(t, s, 1, api.ErrFull)
			continue
		}
		takes(t, s, room, head)
		full := painted(fresh(size, head), span(head, room), "t")
		looks(t, "behind a Take of all", s, full)
		for n, want := range map[int]api.Errno{1: api.ErrFull, math.MaxInt: api.ErrFull, 0: api.ErrArg, -1: api.ErrArg} {
			refuses(t, s, n, want)
		}
		looks(t, "behind a Take of a full one", s, full)
	}
}

// P10.2: one by one, from the head on, till all are taken.
func TestTakeOneByOne(t *testing.T) {
	s := made(t, 4096, 2)
	for i := 2; i < 4096; i++ {
		takes(t, s, 1, i)
	}
	refuses(t, s, 1, api.ErrFull)
	shows(t, "all taken", s, strings.Repeat("t", 4096))
	frees(t, s, span(4095, 1), api.OK)
	frees(t, s, span(70, 1), api.OK)
	takes(t, s, 1, 70)
	takes(t, s, 1, 4095)
	refuses(t, s, 1, api.ErrFull)
}

// P10.2: the lowest place that is long enough, not the one that fits best; shorter ones are passed by and stay.
func TestTakeOfTheLowest(t *testing.T) {
	const text = "hhfttfftfffffttffftfffff"
	for n, want := range map[int]struct {
		at   int
		text string
	}{
		1: {2, "hhtttfftfffffttffftfffff"},
		2: {5, "hhftttttfffffttffftfffff"},
		3: {8, "hhfttffttttffttffftfffff"},
		4: {8, "hhfttfftttttfttffftfffff"},
		5: {8, "hhfttffttttttttffftfffff"},
	} {
		s := laid(t, text)
		takes(t, s, n, want.at)
		looks(t, "behind Take", s, want.text)
	}
	for _, n := range []int{6, 7, 16, 17, 24, math.MaxInt} {
		s := laid(t, text)
		refuses(t, s, n, api.ErrFull)
		looks(t, "behind a Take that is refused", s, text)
	}
	s := laid(t, "ftffttfff")
	for _, x := range [][2]int{{3, 6}, {1, 0}, {1, 2}, {1, 3}} {
		takes(t, s, x[0], x[1])
	}
	refuses(t, s, 1, api.ErrFull)
}

// P10.2: enough in number, but not one behind the other.
func TestTakeOfWhatLiesApart(t *testing.T) {
	s := laid(t, "hftftftftf")
	refuses(t, s, 2, api.ErrFull)
	refuses(t, s, 5, api.ErrFull)
	looks(t, "apart", s, "hftftftftf")
	frees(t, s, span(6, 1), api.OK)
	refuses(t, s, 4, api.ErrFull)
	takes(t, s, 3, 5)
	looks(t, "no more apart", s, "hftftttttf")
}

// P10.3: spans next to each other are one, in whatever order they were let go.
func TestSpansAreTheFewest(t *testing.T) {
	parts := []api.Span{span(2, 2), span(4, 1), span(5, 3), span(8, 2)}
	var inEachOrder func(done, left []api.Span)
	inEachOrder = func(done, left []api.Span) {
		if len(left) > 0 {
			for i, x := range left {
				inEachOrder(append(slices.Clone(done), x), slices.Delete(slices.Clone(left), i, i+1))
			}
			return
		}
		text := "hhtttttttt"
		s := laid(t, text)
		for _, x := range done {
			frees(t, s, x, api.OK)
			text = painted(text, x, "f")
			shows(t, "let go piece by piece", s, text)
		}
		if l := s.Spans(); len(l) != 1 || l[0] != span(2, 8) {
			t.Errorf("Spans are %v when all were let go", l)
		}
	}
	inEachOrder(nil, parts)
	if l := laid(t, "hhftftffft").Spans(); !slices.Equal(l, []api.Span{{From: 2, Many: 1}, {From: 4, Many: 1}, {From: 6, Many: 3}}) {
		t.Errorf("Spans are %v", l)
	}
}

// P10.3: none, one at each end, and every second one of all there can be.
func TestSpansAtTheirEdges(t *testing.T) {
	for _, text := range []string{
		"", "h", "t", "f", "hhh", "ttt", "fff", "hf", "ht", "ft", "tf", "htf", "hft", "ftf", "tft",
		strings.Repeat("ft", 2048), strings.Repeat("tf", 2048), "h" + strings.Repeat("t", 4094) + "f", "f" + strings.Repeat("t", 4095),
	} {
		looks(t, "at the edges", laid(t, text), text)
	}
}

// R3: what Spans has answered is the caller's own, and no later call changes it.
func TestSpansAreApart(t *testing.T) {
	s := laid(t, "hhfttfft")
	want := []api.Span{{From: 2, Many: 1}, {From: 5, Many: 2}}
	one, two := s.Spans(), s.Spans()
	one[0], one[1] = span(0, 99), span(7, 7)
	_ = append(one[:1], span(3, 3))
	if !slices.Equal(two, want) {
		t.Errorf("two of Spans are one list: %v", two)
	}
	looks(t, "behind a change of what was told", s, "hhfttfft")
	takes(t, s, 2, 5)
	frees(t, s, span(3, 1), api.OK)
	if !slices.Equal(two, want) {
		t.Errorf("what Spans has told changes with later calls: %v", two)
	}
}

// R5: what is done to one Space is not to be seen in another one.
func TestTwoSpaces(t *testing.T) {
	r, s := made(t, 10, 2), made(t, 10, 2)
	if r == s {
		t.Fatal("two of New are one Space")
	}
	takes(t, r, 3, 2)
	looks(t, "the other Space", s, "hhffffffff")
	marks(t, s, span(8, 2), api.OK)
	looks(t, "this Space", r, "hhtttfffff")
	made(t, 10, 2)
	looks(t, "the other Space", s, "hhfffffftt")
}

// R5: questions and what is refused change nothing, however often.
func TestQuestionsChangeNothing(t *testing.T) {
	s := laid(t, "hhfttfft")
	for range 3 {
		shows(t, "asked again", s, "hhfttfft")
		refuses(t, s, 3, api.ErrFull)
		refuses(t, s, 0, api.ErrArg)
		marks(t, s, span(2, 2), api.ErrArg)
		frees(t, s, span(4, 2), api.ErrArg)
		frees(t, s, span(1, 1), api.ErrArg)
	}
	looks(t, "asked again", s, "hhfttfft")
}

// R1: none of the calls panics where there is no Space, or the zero one: it has no numbers.
func TestNoSpace(t *testing.T) {
	for _, s := range []*Space{nil, {}} {
		looks(t, "no Space", s, "")
		refuses(t, s, 1, api.ErrFull)
		refuses(t, s, math.MaxInt, api.ErrFull)
		refuses(t, s, 0, api.ErrArg)
		for _, x := range []api.Span{{}, {From: 0, Many: 1}, {From: 1}, {From: math.MaxInt, Many: math.MaxInt}, {From: math.MinInt, Many: math.MinInt}} {
			marks(t, s, x, api.ErrArg)
			frees(t, s, x, api.ErrArg)
		}
		looks(t, "no Space", s, "")
	}
}

// P10.2 to P10.4: each way in which a few numbers can lie, and each call on it.
func TestEachWayToLie(t *testing.T) {
	const size = 7
	for head := range size + 1 {
		for bits := range 1 << (size - head) {
			text := fresh(size, head)
			for i := head; i < size; i++ {
				if bits>>(i-head)&1 == 1 {
					text = painted(text, span(i, 1), "t")
				}
			}
			eachCall(t, text)
			if t.Failed() {
				t.Fatalf("at %s", text)
			}
		}
	}
}

// eachCall does each call on a Space of its own that looks like a text.
func eachCall(t *testing.T, text string) {
	t.Helper()
	looks(t, "laid", laid(t, text), text)
	for n := -1; n <= len(text)+1; n++ {
		s := laid(t, text)
		then, at, e := tookOf(text, n)
		if i, got := s.Take(n); i != at || got != e {
			t.Errorf("%s: Take(%d): %d, error %d, not %d, %d", text, n, i, got, at, e)
		}
		looks(t, text+" behind Take", s, then)
		for from := -1; from <= len(text); from++ {
			s := laid(t, text)
			then, e := turned(text, span(from, n), "f", "t")
			marks(t, s, span(from, n), e)
			shows(t, text+" behind Mark", s, then)
			s = laid(t, text)
			then, e = turned(text, span(from, n), "t", "f")
			frees(t, s, span(from, n), e)
			shows(t, text+" behind Free", s, then)
		}
	}
}

// P10.4: nobody is given a number that another one has, nor one of the head; what has no owner is free.
func TestNothingIsTakenTwice(t *testing.T) {
	below := numbers(11)
	for _, size := range []int{5, 40, 300} {
		s, owner, owned := made(t, size, 2), make([]int, size), map[int]api.Span{}
		owner[0], owner[1] = -1, -1
		for who := 1; who <= 1000; who++ {
			n := 1 + below(1+size/8)
			i, e := s.Take(n)
			if e == api.OK {
				owned[who] = span(i, n)
				give(t, owner, owned[who], 0, who)
			}
			if old := 1 + below(who); owned[old].Many > 0 && (e != api.OK || below(2) == 0) {
				frees(t, s, owned[old], api.OK)
				give(t, owner, owned[old], old, 0)
				delete(owned, old)
			}
			shows(t, "owned", s, ownedText(owner))
		}
		looks(t, "owned", s, ownedText(owner))
	}
}

// give lets a span go from one owner to another, and checks that it was that one's.
func give(t *testing.T, owner []int, x api.Span, from, to int) {
	t.Helper()
	for i := x.From; i < x.From+x.Many; i++ {
		if owner[i] != from {
			t.Fatalf("%d is given from %d to %d, but is %d's", i, from, to, owner[i])
		}
		owner[i] = to
	}
}

// ownedText is the text of a list of owners.
func ownedText(owner []int) string {
	b := make([]byte, len(owner))
	for i, who := range owner {
		b[i] = "hft"[min(who, 1)+1]
	}
	return string(b)
}

// numbers are the same ones each time, below what is asked for.
func numbers(state uint32) func(int) int {
	return func(n int) int {
		state = state*1664525 + 1013904223
		return int(state>>8) % n
	}
}

// P10.2 to P10.4: many calls one behind the other, held against a text.
func TestManyCalls(t *testing.T) {
	below := numbers(7)
	for _, x := range [][2]int{{1, 0}, {6, 1}, {10, 2}, {40, 2}, {40, 0}, {100, 60}, {257, 3}} {
		size, head := x[0], x[1]
		s, text := made(t, size, head), fresh(size, head)
		for step := range 3000 {
			x := span(below(size+2)-1, below(1+size/5)+below(3)-1)
			var want api.Errno
			switch below(4) {
			case 0:
				text, want = turned(text, x, "f", "t")
				marks(t, s, x, want)
			case 1, 2:
				text, want = turned(text, x, "t", "f")
				frees(t, s, x, want)
			case 3:
				at := 0
				text, at, want = tookOf(text, x.Many)
				if i, e := s.Take(x.Many); i != at || e != want {
					t.Errorf("Take(%d): %d, error %d, not %d, %d", x.Many, i, e, at, want)
				}
			}
			shows(t, "many calls", s, text)
			if step%50 == 0 {
				looks(t, "many calls", s, text)
			}
			if t.Failed() {
				t.Fatalf("at step %d", step)
			}
		}
	}
}
