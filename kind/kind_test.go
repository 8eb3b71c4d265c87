package kind

import (
	"math"
	"strings"
	"testing"

	"outcrop/api"
)

// told is a line of the chapter's table, written out once more, in numbers.
type told struct {
	kind          int
	name          string
	opaque, clear bool
	loss, emits   int
}

// table is the chapter's table in all its columns.
func table() []told {
	const no, yes = false, true
	return []told{
		{0, "air", no, yes, 1, 0},
		{1, "stone", yes, no, 16, 0},
		{2, "dirt", yes, no, 16, 0},
		{3, "grass", yes, no, 16, 0},
		{4, "sand", yes, no, 16, 0},
		{5, "water", no, no, 3, 0},
		{6, "gravel", yes, no, 16, 0},
		{7, "coal", yes, no, 16, 0},
		{8, "iron", yes, no, 16, 0},
		{9, "gold", yes, no, 16, 3},
		{10, "log", yes, no, 16, 0},
		{11, "leaves", no, no, 2, 0},
		{12, "brick", yes, no, 16, 0},
		{13, "lamp", no, no, 1, 14},
		{14, "glass", no, yes, 1, 0},
		{15, "bedrock", yes, no, 16, 0},
	}
}

// answers is all that is told of a kind.
func answers(k int) told {
	return told{k, Name(k), Opaque(k), Clear(k), Loss(k), Emits(k)}
}

// P5.1: each row of the table in all its columns, and the kind of its name.
func TestTable(t *testing.T) {
	if len(table()) != api.Kinds {
		t.Fatalf("the table has %d rows, and there are %d kinds", len(table()), api.Kinds)
	}
	for _, want := range table() {
		if got := answers(want.kind); got != want {
			t.Errorf("kind %d: %+v, not %+v", want.kind, got, want)
		}
		if k, is := Of(want.name); k != want.kind || !is {
			t.Errorf("Of(%q): %d, %v, not %d, true", want.name, k, is, want.kind)
		}
	}
}

// P5.1: api's names of the kinds are the table's names.
func TestKindsOfAPI(t *testing.T) {
	for name, k := range map[string]int{
		"air": api.Air, "stone": api.Stone, "dirt": api.Dirt, "grass": api.Grass,
		"sand": api.Sand, "water": api.Water, "gravel": api.Gravel, "coal": api.Coal,
		"iron": api.Iron, "gold": api.Gold, "log": api.Log, "leaves": api.Leaves,
		"brick": api.Brick, "lamp": api.Lamp, "glass": api.Glass, "bedrock": api.Bedrock,
	} {
		if Name(k) != name {
			t.Errorf("Name(%d): %q, not %q", k, Name(k), name)
		}
		if got, is := Of(name); got != k || !is {
			t.Errorf("Of(%q): %d, %v, not %d, true", name, got, is, k)
		}
	}
}

// P5.1: the chapter's examples.
func TestExamples(t *testing.T) {
	if Name(13) != "lamp" {
		t.Errorf("Name(13): %q", Name(13))
	}
	if k, is := Of("leaves"); k != 11 || !is {
		t.Errorf("Of(leaves): %d, %v", k, is)
	}
	if k, is := Of("lava"); k != 0 || is {
		t.Errorf("Of(lava): %d, %v", k, is)
	}
	if Emits(13) != 14 || Loss(5) != 3 || Opaque(16) {
		t.Errorf("Emits(13), Loss(5), Opaque(16): %d, %d, %v", Emits(13), Loss(5), Opaque(16))
	}
}

// P5.1, R1: what is no kind has an empty name and nothing else; numbers whose lowest bits are those of a kind are none either.
func TestNoKind(t *testing.T) {
	wrong := []int{
		-1, -2, -13, -15, -16, -17, 16, 17, 29, 31, 32, 127, 128, 255, 256,
		math.MinInt, math.MinInt + 1, math.MaxInt, math.MaxInt - 1,
		math.MinInt32, math.MaxInt32, api.None,
	}
	for _, shift := range []int{5, 8, 16, 31, 32, 33, 62, 63} {
		for _, low := range []int{0, 1, 13, 15} {
			wrong = append(wrong, 1<<shift|low)
		}
	}
	for k := 16; k < 1000; k++ {
		wrong = append(wrong, k, -k)
	}
	for _, k := range wrong {
		if got, want := answers(k), (told{kind: k}); got != want {
			t.Errorf("kind %d: %+v, not %+v", k, got, want)
		}
	}
}

// P5.1: 0 and 15 are the first kind and the last one.
func TestEndsOfTable(t *testing.T) {
	for k, want := range map[int]string{-1: "", 0: "air", 15: "bedrock", 16: ""} {
		if got := Name(k); got != want {
			t.Errorf("Name(%d): %q, not %q", k, got, want)
		}
	}
}

// notNames are texts that are no kind's name, most of them made of one.
func notNames() []string {
	l := []string{
		"", " ", "\t", "\n", "\x00", "\xff", "\xff\xfe", "\xc3\x28", "\u00e9", "0", "1", "13", "16", "-1", ".", "*", "%s",
		"lava", "none", "None", "block", "kind", "wood", "ice", "air,stone", "air stone", "stonedirt", "\u0430ir", "st\u00f6ne",
		"bed", "rock", "bed rock", "bed-rock", "clay", "leave", "leaf", "lamps", "gra\u00df", "\ufeffair", "\u212aair",
	}
	for _, r := range table() {
		n := r.name
		l = append(l,
			strings.ToUpper(n), strings.ToUpper(n[:1])+n[1:], n[:len(n)-1]+strings.ToUpper(n[len(n)-1:]),
			" "+n, n+" ", " "+n+" ", "\t"+n, n+"\n", n+"\x00", "\x00"+n, n+"\xff",
			n+"s", "a"+n, n+n, n[:1]+" "+n[1:], n+".", "\""+n+"\"", n+strings.Repeat("e", 10000),
		)
		for i := range n {
			l = append(l, n[:i], n[i+1:], n[:i]+n[i+1:], n[:i]+"\x80"+n[i+1:], n[:i]+"Q"+n[i+1:])
		}
	}
	return l
}

// P5.1, R1: a name is one of the table's only as a whole, sign by sign; beside false stands 0.
func TestNoName(t *testing.T) {
	names := map[string]bool{}
	for _, r := range table() {
		names[r.name] = true
	}
	for _, n := range notNames() {
		if names[n] {
			continue
		}
		if k, is := Of(n); k != 0 || is {
			t.Errorf("Of(%.20q): %d, %v, not 0, false", n, k, is)
		}
	}
}

// P5.1: all texts of up to three small letters, of which two are names.
func TestShortNames(t *testing.T) {
	found := map[string]int{}
	var spell func(string)
	spell = func(n string) {
		if k, is := Of(n); is {
			found[n] = k
		} else if k != 0 {
			t.Errorf("Of(%q): %d beside false", n, k)
		}
		if len(n) == 3 {
			return
		}
		for c := 'a'; c <= 'z'; c++ {
			spell(n + string(c))
		}
	}
	spell("")
	if k, is := found["air"]; len(found) != 2 || k != 0 || !is || found["log"] != 10 {
		t.Errorf("found %v, not air 0 and log 10", found)
	}
}

// P5.1: a name that is put together in new memory is the same name.
func TestNameInNewMemory(t *testing.T) {
	for _, r := range table() {
		b := []byte(r.name)
		n := string(b)
		if k, is := Of(n); k != r.kind || !is {
			t.Errorf("Of(%q): %d, %v", n, k, is)
		}
		b = append([]byte("xx"), b...)
		b = append(b, "yy"...)
		n = string(b)
		if k, is := Of(n[2 : len(n)-2]); k != r.kind || !is {
			t.Errorf("Of(%q), a part of a text: %d, %v", r.name, k, is)
		}
	}
}

// P5.2: Of of a kind's name is the kind, and no two kinds have one name.
func TestOfName(t *testing.T) {
	seen := map[string]int{}
	for k := range api.Kinds {
		n := Name(k)
		if n == "" {
			t.Errorf("kind %d has no name", k)
		}
		if other, is := seen[n]; is {
			t.Errorf("kinds %d and %d are both %q", other, k, n)
		}
		seen[n] = k
		if got, is := Of(n); got != k || !is {
			t.Errorf("Of(Name(%d)): %d, %v", k, got, is)
		}
	}
}

// P5.2: what is clear is not opaque.
func TestClearIsNotOpaque(t *testing.T) {
	for k := -1; k <= 16; k++ {
		if Clear(k) && Opaque(k) {
			t.Errorf("kind %d is clear and opaque", k)
		}
	}
}

// P5.2: what is opaque loses 16, what is not at least 1 and at most 3. What is no kind loses nothing.
func TestLossFollows(t *testing.T) {
	for k := range api.Kinds {
		l := Loss(k)
		if Opaque(k) && l != 16 {
			t.Errorf("kind %d is opaque and loses %d", k, l)
		}
		if !Opaque(k) && (l < 1 || l > 3) {
			t.Errorf("kind %d is not opaque and loses %d", k, l)
		}
	}
}

// R5: what is answered does not hang on what was asked before.
func TestAskedAgain(t *testing.T) {
	for range 3 {
		for k := len(table()) - 1; k >= 0; k-- {
			want := table()[k]
			answers(-1)
			Of("lava")
			if got := answers(k); got != want {
				t.Errorf("kind %d, asked again: %+v, not %+v", k, got, want)
			}
			answers(math.MaxInt)
			if got, is := Of(want.name); got != k || !is {
				t.Errorf("Of(%q), asked again: %d, %v", want.name, got, is)
			}
		}
	}
}
