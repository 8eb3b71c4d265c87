package world

import (
	"iter"

	"outcrop/api"
	"outcrop/grid"
)

// maxChunk is the greatest number of a chunk that has cells of the world.
const maxChunk = api.MaxCoord / api.Size

// amissCell tells what is amiss with a cell.
func amissCell(p api.Pos) api.Errno {
	if !grid.In(p) {
		return api.ErrOutOfWorld
	}
	return api.OK
}

// amissBox tells what is amiss with a box that is to be scanned.
func amissBox(b api.Box) api.Errno {
	if !grid.Inside(b) {
		return api.ErrOutOfWorld
	}
	if grid.Count(b) > api.MaxScan {
		return api.ErrLong
	}
	return api.OK
}

// amissChunk tells what is amiss with a chunk.
func amissChunk(c api.At) api.Errno {
	if min(c.X, c.Z) < -maxChunk || max(c.X, c.Z) > maxChunk {
		return api.ErrOutOfWorld
	}
	return api.OK
}

// amissKind tells what is amiss with a kind of block.
func amissKind(k int) api.Errno {
	if k < api.Air || k >= api.Kinds {
		return api.ErrKind
	}
	return api.OK
}

// chunks are those that a box has cells of.
func chunks(b api.Box) iter.Seq[api.At] {
	return func(yield func(api.At) bool) {
		from, to := grid.Chunk(b.A), grid.Chunk(b.B)
		for z := from.Z; z <= to.Z; z++ {
			for x := from.X; x <= to.X; x++ {
				if !yield(api.At{X: x, Z: z}) {
					return
				}
			}
		}
	}
}

// within is the part of a box that is in a chunk.
func within(b api.Box, c api.At) api.Box {
	low, high := grid.Cell(c, 0), grid.Cell(c, api.Cells-1)
	return api.Box{
		A: api.Pos{X: max(b.A.X, low.X), Y: b.A.Y, Z: max(b.A.Z, low.Z)},
		B: api.Pos{X: min(b.B.X, high.X), Y: b.B.Y, Z: min(b.B.Z, high.Z)},
	}
}

// placeIn is how many cells of a box come ahead of one, in grid's order.
func placeIn(b api.Box, p api.Pos) int {
	wide, deep := b.B.X-b.A.X+1, b.B.Z-b.A.Z+1
	return ((p.Y-b.A.Y)*deep+p.Z-b.A.Z)*wide + p.X - b.A.X
}
