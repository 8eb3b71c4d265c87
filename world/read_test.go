package world

import (
	"bytes"
	"math/rand"
	"testing"

	"outcrop/api"
	"outcrop/disk"
	"outcrop/grid"
)

// seeds are some, the least and the greatest among them.
func seeds() []uint64 { return []uint64{0, 7, 1 << 63, 1<<64 - 1} }

// places are chunks everywhere in the world.
func places() []api.At {
	const far = 1 << 16
	return []api.At{{}, {X: -1, Z: -1}, {X: 3, Z: -4}, {X: -700, Z: 1200}, {X: far, Z: far}, {X: -far, Z: far - 1}, {X: -far, Z: -far}, {X: far}}
}

// P23.3: each cell of a chunk has the block that the layers below make of it, and the light that light's Flood has of the nine chunks about it.
func TestWholeChunks(t *testing.T) {
	for n, seed := range seeds() {
		w, m := begun(t, seed, 9, disk.New()), modelOf(seed)
		for _, c := range []api.At{places()[n], places()[n+4]} {
			blocks := m.final(c).Bytes()
			sky, lamps := m.shine(c)
			for i := range api.Cells {
				p := grid.Cell(c, i)
				if !grid.In(p) {
					continue
				}
				k, e := w.Get(p)
				s, l, f := w.Light(p)
				if k != int(blocks[i]) || s != int(sky[i]) || l != int(lamps[i]) || e != api.OK || f != api.OK {
					t.Fatalf("seed %d, %v: %d, light %d, %d, errors %d, %d, not %d, %d, %d", seed, p, k, s, l, e, f, blocks[i], sky[i], lamps[i])
				}
			}
		}
	}
}

// P23.3: cells here and there, over borders of chunks and of the world, in any order, with room for few chunks.
func TestCellsHereAndThere(t *testing.T) {
	r := rand.New(rand.NewSource(1))
	for n, seed := range seeds() {
		w, m := begun(t, seed, 1+3*n, disk.New()), modelOf(seed)
		for range 60 {
			c := places()[r.Intn(8)]
			p := cell(16*c.X+r.Intn(4)-2, r.Intn(128), 16*c.Z+r.Intn(4)-2)
			if !grid.In(p) {
				continue
			}
			if gets(t, "here and there", w, p, m.get(p)); r.Intn(4) == 0 {
				shines(t, "here and there", w, m, p)
			}
		}
	}
}

// P23.3: a Scan tells what its cells tell one by one, in grid's order.
func TestScanIsItsCells(t *testing.T) {
	const far = 1 << 20
	for _, b := range []api.Box{
		{}, {A: cell(-1, 127, -1), B: cell(-1, 127, -1)}, {A: cell(-1, 40, -1), B: cell(0, 41, 0)}, {A: cell(15, 0, 7), B: cell(16, 127, 7)},
		{A: cell(-20, 30, 4), B: cell(40, 33, 5)}, {A: cell(9, 44, -40), B: cell(9, 46, 20)}, {A: cell(-3, 0, -5), B: cell(2, 127, 4)},
		{A: cell(far-1, 20, far-17), B: cell(far, 50, far)}, {A: cell(-far, 20, -far), B: cell(17-far, 29, 15-far)},
	} {
		for seed, most := range map[uint64]int{3: 7, 7: 40} {
			w, m := begun(t, seed, most, disk.New()), modelOf(seed)
			scans(t, "scan", w, m, b)
			all, e := w.Scan(b)
			var one []byte
			for p := range grid.Each(b) {
				k, _ := w.Get(p)
				one = append(one, byte(k))
			}
			if !bytes.Equal(all, one) || e != api.OK {
				t.Errorf("seed %d, %v: error %d, or not what its cells are", seed, b, e)
			}
		}
	}
}

// P23.2, P23.3: boxes of 8192 cells may be scanned, in whatever form.
func TestGreatScans(t *testing.T) {
	w, m := begun(t, 7, 30, disk.New()), modelOf(7)
	for _, b := range []api.Box{
		{A: cell(-16, 30, -16), B: cell(15, 37, 15)}, {A: cell(5, 0, -32), B: cell(5, 127, 31)}, {A: cell(-7, 0, -9), B: cell(0, 127, -2)},
		{A: cell(-200, 45, 3), B: cell(55, 45, 34)}, {A: cell(8, 60, 8), B: cell(8, 60, 8)},
	} {
		scans(t, "great", w, m, b)
	}
	line := api.Box{A: cell(1<<20-8191, 50, -1<<20), B: cell(1<<20, 50, -1<<20)}
	all, e := w.Scan(line)
	if len(all) != 8192 || e != api.OK {
		t.Fatalf("a line: %d cells, error %d", len(all), e)
	}
	for i := 0; i < len(all); i += 97 {
		if p := cell(line.A.X+i, 50, line.A.Z); int(all[i]) != m.get(p) {
			t.Errorf("%v: %d, not %d", p, all[i], m.get(p))
		}
	}
	if x := w.Stat(); x.Resident > 30 || x.Pinned != 0 {
		t.Errorf("behind them: %v", x)
	}
}

// P23.8: what is read does not hang on what was read ahead of it, on what was let go, nor on how much is kept.
func TestReadInAnyOrder(t *testing.T) {
	box := api.Box{A: cell(-20, 38, -20), B: cell(19, 42, 19)}
	for _, most := range []int{1, 2, 5, 24, 25, 26, 100} {
		r := rand.New(rand.NewSource(int64(most)))
		w, m := begun(t, 42, most, disk.New()), modelOf(42)
		for range 12 {
			p := cell(r.Intn(64)-32, r.Intn(128), r.Intn(64)-32)
			switch r.Intn(4) {
			case 0:
				gets(t, "in any order", w, p, m.get(p))
			case 1:
				answers(t, "Evict", w.Evict(chunkOf(p)), api.OK)
			case 2:
				scans(t, "in any order", w, m, api.Box{A: p, B: p})
			default:
				shines(t, "in any order", w, m, p)
			}
		}
		scans(t, "behind all", w, m, box)
	}
}
