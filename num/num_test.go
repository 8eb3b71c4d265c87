package num

import (
	"bytes"
	"hash/fnv"
	"math"
	"math/big"
	"testing"
)

const (
	least    = math.MinInt
	greatest = math.MaxInt
)

// edges are whole numbers at which a division may go astray.
func edges() []int {
	l := []int{least, least + 1, least + 2, least / 2, greatest / 2, greatest - 2, greatest - 1, greatest}
	for _, n := range []int{0, 1, 2, 3, 7, 8, 15, 16, 17, 31, 32, 33, 255, 256, 1 << 20, 1 << 31, 1 << 32, 1 << 40, 1 << 62} {
		l = append(l, n-1, n, n+1, -n-1, -n, -n+1)
	}
	return l
}

// P1.1: the examples, and both signs about the borders of chunks.
func TestDivAndMod(t *testing.T) {
	for _, x := range []struct{ a, b, div, mod int }{
		{-1, 16, -1, 15},
		{-16, 16, -1, 0},
		{-17, 16, -2, 15},
		{-15, 16, -1, 1},
		{0, 16, 0, 0},
		{15, 16, 0, 15},
		{16, 16, 1, 0},
		{33, 16, 2, 1},
		{7, 1, 7, 0},
		{-7, 1, -7, 0},
		{-7, 2, -4, 1},
		{7, 2, 3, 1},
		{-3, 8, -1, 5},
		{least, 1, least, 0},
		{least, 2, least / 2, 0},
		{least, 3, -3074457345618258603, 1},
		{least, greatest, -2, greatest - 1},
		{-1, greatest, -1, greatest - 1},
		{greatest, 1, greatest, 0},
		{greatest, 2, greatest / 2, 1},
		{greatest, greatest, 1, 0},
		{greatest - 1, greatest, 0, greatest - 1},
	} {
		if q, r := Div(x.a, x.b), Mod(x.a, x.b); q != x.div || r != x.mod {
			t.Errorf("%d by %d: %d and %d, not %d and %d", x.a, x.b, q, r, x.div, x.mod)
		}
	}
}

// P1.1: a divisor below 1.
func TestDivAndModOfNoDivisor(t *testing.T) {
	for _, a := range edges() {
		for _, b := range []int{0, -1, -2, -16, least + 1, least} {
			if q, r := Div(a, b), Mod(a, b); q != 0 || r != 0 {
				t.Errorf("%d by %d: %d and %d, not 0 and 0", a, b, q, r)
			}
		}
	}
}

// P1.1: q b is at most a, (q + 1) b is not, and what is left is a less q b, in numbers that do not wrap round.
func TestDivIsTheGreatestThatFits(t *testing.T) {
	for _, a := range edges() {
		for _, b := range edges() {
			if b < 1 {
				continue
			}
			q := big.NewInt(int64(Div(a, b)))
			left := new(big.Int).Mul(q, big.NewInt(int64(b)))
			left.Sub(big.NewInt(int64(a)), left)
			if left.Sign() < 0 || left.Cmp(big.NewInt(int64(b))) >= 0 {
				t.Errorf("Div(%d, %d) is %s, which leaves %s", a, b, q, left)
			}
			if left.Cmp(big.NewInt(int64(Mod(a, b)))) != 0 {
				t.Errorf("Mod(%d, %d) is %d, not %s", a, b, Mod(a, b), left)
			}
		}
	}
}

// P1.2: below, within, above; bounds that touch, and bounds that cross, where low is asked first.
func TestClamp(t *testing.T) {
	for _, x := range []struct{ v, low, high, want int }{
		{-5, 0, 3, 0},
		{-1, 0, 3, 0},
		{0, 0, 3, 0},
		{2, 0, 3, 2},
		{3, 0, 3, 3},
		{4, 0, 3, 3},
		{5, 0, 3, 3},
		{-9, -8, -2, -8},
		{-5, -8, -2, -5},
		{-1, -8, -2, -2},
		{6, 7, 7, 7},
		{7, 7, 7, 7},
		{8, 7, 7, 7},
		{5, 10, 3, 10},
		{2, 10, 3, 10},
		{10, 10, 3, 3},
		{11, 10, 3, 3},
		{least, least, greatest, least},
		{greatest, least, greatest, greatest},
		{least, 0, 1, 0},
		{greatest, 0, 1, 1},
		{least, greatest, least, greatest},
		{greatest, greatest, least, least},
	} {
		if got := Clamp(x.v, x.low, x.high); got != x.want {
			t.Errorf("Clamp(%d, %d, %d) is %d, not %d", x.v, x.low, x.high, got, x.want)
		}
	}
}

// P1.3: the groups, also of numbers that Get does not take.
func TestPut(t *testing.T) {
	for _, x := range []struct {
		n    int
		want string
	}{
		{0, "\x00"},
		{1, "\x01"},
		{127, "\x7f"},
		{128, "\x80\x01"},
		{129, "\x81\x01"},
		{300, "\xac\x02"},
		{1<<14 - 1, "\xff\x7f"},
		{1 << 14, "\x80\x80\x01"},
		{1<<21 - 1, "\xff\xff\x7f"},
		{1 << 21, "\x80\x80\x80\x01"},
		{1<<28 - 1, "\xff\xff\xff\x7f"},
		{1 << 28, "\x80\x80\x80\x80\x01"},
		{1<<31 - 1, "\xff\xff\xff\xff\x07"},
		{1 << 31, "\x80\x80\x80\x80\x08"},
		{1<<35 - 1, "\xff\xff\xff\xff\x7f"},
		{1 << 35, "\x80\x80\x80\x80\x80\x01"},
		{1 << 56, "\x80\x80\x80\x80\x80\x80\x80\x80\x01"},
		{greatest, "\xff\xff\xff\xff\xff\xff\xff\xff\x7f"},
	} {
		if got := Put(nil, x.n); string(got) != x.want {
			t.Errorf("Put(nothing, %d) is %x, not %x", x.n, got, x.want)
		}
		if got := Put([]byte("ab"), x.n); string(got) != "ab"+x.want {
			t.Errorf("Put(ab, %d) is %x, not 6162%x", x.n, got, x.want)
		}
	}
}

// P1.3: of a number below 0 there is b alone.
func TestPutBelowNought(t *testing.T) {
	for _, n := range []int{-1, -2, -127, -128, -300, least + 1, least} {
		for _, b := range []string{"", "\x00", "\x80", "abc"} {
			if got := Put([]byte(b), n); string(got) != b {
				t.Errorf("Put(%x, %d) is %x", b, n, got)
			}
		}
		if got := Put(nil, n); len(got) != 0 {
			t.Errorf("Put(nothing, %d) is %x", n, got)
		}
	}
}

// P1.3, R3: what stands in b, and behind it in the same memory, stays; and the answer is memory of its own.
func TestPutLeavesItsBytes(t *testing.T) {
	for _, n := range []int{least, -1, 0, 5, 300, 1<<31 - 1, greatest} {
		memory := []byte("abcdefghijklmnopqrst")
		b := memory[:3]
		got := Put(b, n)
		want := bytes.Clone(got)
		if string(memory) != "abcdefghijklmnopqrst" {
			t.Errorf("Put(.., %d) has changed %q", n, memory)
		}
		for i := range memory {
			memory[i] = '!'
		}
		if !bytes.Equal(got, want) {
			t.Errorf("Put(.., %d): a later change shows: %x, not %x", n, got, want)
		}
		for i := range got {
			got[i] = '?'
		}
		if string(memory) != "!!!!!!!!!!!!!!!!!!!!" {
			t.Errorf("Put(.., %d): a change to the answer shows: %q", n, memory)
		}
	}
}

// P1.4: what b begins with, whatever stands behind; more groups than needed; and what is no number.
func TestGet(t *testing.T) {
	for _, x := range []struct {
		b       string
		n, many int
	}{
		{"\x00", 0, 1},
		{"\x01", 1, 1},
		{"\x7f", 127, 1},
		{"\x80\x01", 128, 2},
		{"\xac\x02", 300, 2},
		{"\xff\x7f", 1<<14 - 1, 2},
		{"\x80\x80\x01", 1 << 14, 3},
		{"\x80\x80\x80\x01", 1 << 21, 4},
		{"\x80\x80\x80\x80\x01", 1 << 28, 5},
		{"\xff\xff\xff\xff\x07", 1<<31 - 1, 5},

		{"\xac\x02\x07", 300, 2},
		{"\x05\xff\xff\xff\xff\xff", 5, 1},
		{"\xff\xff\xff\xff\x07\xff", 1<<31 - 1, 5},

		{"\x80\x00", 0, 2},
		{"\x80\x80\x80\x80\x00", 0, 5},
		{"\x81\x00", 1, 2},
		{"\x81\x80\x80\x80\x00", 1, 5},
		{"\xff\x80\x00", 127, 3},
		{"\x80\x00\x80", 0, 2},

		{"", 0, 0},
		{"\x80", 0, 0},
		{"\xff", 0, 0},
		{"\x81\x81", 0, 0},
		{"\xff\xff\xff\xff", 0, 0},
		{"\x80\x80\x80\x80\x80", 0, 0},
		{"\xff\xff\xff\xff\xff", 0, 0},
		{"\x80\x80\x80\x80\x80\x00", 0, 0},
		{"\x81\x80\x80\x80\x80\x01", 0, 0},

		{"\x80\x80\x80\x80\x08", 0, 0},
		{"\xff\xff\xff\xff\x0f", 0, 0},
		{"\x80\x80\x80\x80\x10", 0, 0},
		{"\x85\x80\x80\x80\x10", 0, 0},
		{"\x80\x80\x80\x80\x40", 0, 0},
		{"\xff\xff\xff\xff\x7f", 0, 0},
	} {
		if n, many := Get([]byte(x.b)); n != x.n || many != x.many {
			t.Errorf("Get(%x) is %d and %d, not %d and %d", x.b, n, many, x.n, x.many)
		}
	}
	if n, many := Get(nil); n != 0 || many != 0 {
		t.Errorf("Get(nothing) is %d and %d", n, many)
	}
}

// P1.5: the examples, and sums of others, as the library has them.
func TestSum(t *testing.T) {
	if got := Sum(nil); got != 0x811c9dc5 {
		t.Errorf("Sum(nothing) is %x", got)
	}
	if got := Sum([]byte{}); got != 0x811c9dc5 {
		t.Errorf("Sum(no byte) is %x", got)
	}
	if got := Sum([]byte("a")); got != 0xe40c292c {
		t.Errorf("Sum(a) is %x", got)
	}
	all := make([]byte, 512)
	for i := range all {
		all[i] = byte(i * 7)
	}
	for n := range all {
		h := fnv.New32a()
		h.Write(all[:n])
		if got := Sum(all[:n]); got != h.Sum32() {
			t.Errorf("Sum(%x) is %x, not %x", all[:n], got, h.Sum32())
		}
	}
}

// P1.5: the order counts, and so does a nought.
func TestSumTellsApart(t *testing.T) {
	seen := map[uint32]string{}
	for _, b := range []string{"", "\x00", "\x00\x00", "ab", "ba", "\x80", "\xff"} {
		s := Sum([]byte(b))
		if other, ok := seen[s]; ok {
			t.Errorf("%x and %x have one sum", b, other)
		}
		seen[s] = b
	}
}

// R3: what is only read stays.
func TestGetAndSumLeaveTheirBytes(t *testing.T) {
	for _, s := range []string{"", "\x00", "\xac\x02\x07", "\x80\x80\x80\x80\x80", "\xff\xff\xff\xff\x0f"} {
		b := []byte(s)
		Get(b)
		Sum(b)
		if string(b) != s {
			t.Errorf("%x has become %x", s, b)
		}
	}
}

// readable are numbers up to 2^31 - 1, about each at which there is a group or a bit more.
func readable() []int {
	l := []int{0}
	for i := range 31 {
		l = append(l, 1<<i-1, 1<<i, 1<<i+1, 3<<i&math.MaxInt32)
	}
	return append(l, math.MaxInt32-1, math.MaxInt32)
}

// P1.6: Get of Put, whatever stands ahead and behind.
func TestGetOfPut(t *testing.T) {
	for _, n := range readable() {
		for _, ahead := range []string{"", "\x00", "\xff\xff"} {
			b := Put([]byte(ahead), n)
			if got, many := Get(b[len(ahead):]); got != n || many != len(b)-len(ahead) {
				t.Errorf("Get of Put(%x, %d) is %d and %d, of %x", ahead, n, got, many, b)
			}
			longer := append(bytes.Clone(b), 0xff, 1)
			if got, many := Get(longer[len(ahead):]); got != n || many != len(b)-len(ahead) {
				t.Errorf("Get of %x is %d and %d, not %d", longer, got, many, n)
			}
		}
	}
}

// P1.3, P1.4: one group less would not do, and what Put makes of a greater number Get refuses.
func TestPutHasTheFewestGroups(t *testing.T) {
	for _, n := range readable() {
		b := Put(nil, n)
		if fits := n < 1<<(7*(len(b)-1)); len(b) > 1 && fits {
			t.Errorf("Put(nothing, %d) has %d bytes", n, len(b))
		}
	}
	for _, n := range []int{1 << 31, 1<<31 + 1, 1 << 32, 1<<35 - 1, 1 << 35, 1 << 40, greatest} {
		if got, many := Get(Put(nil, n)); got != 0 || many != 0 {
			t.Errorf("Get of Put(nothing, %d) is %d and %d", n, got, many)
		}
	}
}
