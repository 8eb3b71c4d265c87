package world

import (
	"cmp"
	"slices"

	"outcrop/api"
	"outcrop/chunk"
	"outcrop/grid"
)

// Set lets another block be in a cell. The overlay is asked what edits there are with it ahead of anything else; when these may not be, it gets the old block back.
func (w *World) Set(p api.Pos, k int) api.Errno {
	if e := w.begin(cmp.Or(amissCell(p), amissKind(k))); e != api.OK {
		return e
	}
	c, i := grid.Chunk(p), grid.Index(p)
	s, e := w.demand(api.Task{Stage: api.StBuild, C: c})
	if e != api.OK {
		return e
	}
	was := s.blocks.Get(i)
	if k == was {
		return api.OK
	}
	s.blocks.Set(i, k)
	edits := s.blocks.Edits()
	if e := w.room(c, edits); e != api.OK {
		s.blocks.Set(i, was)
		return e
	}
	w.dirty[c] = edits
	w.forgetLight(c)
	return api.OK
}

// room sees to it that a chunk may be dirty with some edits. Its region is asked first, since a Set that is refused saves nothing; and again behind a save, which forgets what was reserved.
func (w *World) room(c api.At, edits *chunk.Chunk) api.Errno {
	if e := w.store.Reserve(c, edits); e != api.OK {
		return w.told(e)
	}
	if w.dirty[c] != nil || len(w.dirty) < api.MaxDirty {
		return api.OK
	}
	if e := w.save(); e != api.OK {
		return e
	}
	return w.told(w.store.Reserve(c, edits))
}

// save saves the edits of all dirty chunks at once, so that the disk never has a Set without those ahead of it. They come out of a map in no order, and are sorted, so that the same blocks are written in the same order.
func (w *World) save() api.Errno {
	var l []api.Edit
	for c, edits := range w.dirty {
		l = append(l, api.Edit{C: c, Cells: edits.Bytes()})
	}
	slices.SortFunc(l, func(a, b api.Edit) int {
		return cmp.Or(cmp.Compare(a.C.Z, b.C.Z), cmp.Compare(a.C.X, b.C.X))
	})
	if e := w.store.Save(l); e != api.OK {
		return w.told(e)
	}
	clear(w.dirty)
	return api.OK
}

// edits are those of a chunk: as they are in the map while they were not saved, else as the store has them.
func (w *World) edits(c api.At) (*chunk.Chunk, api.Errno) {
	if edits := w.dirty[c]; edits != nil {
		return edits, api.OK
	}
	edits, e := w.store.Load(c)
	return edits, w.told(e)
}

// Sync saves all edits.
func (w *World) Sync() api.Errno {
	if e := w.begin(api.OK); e != api.OK {
		return e
	}
	return w.save()
}

// Reopen begins anew from the disk. It alone does something though the power is out, but nothing is saved then.
func (w *World) Reopen() api.Errno {
	if w == nil || w.disk == nil {
		return api.ErrDown
	}
	w.computed = 0
	if w.disk.On() && !w.down {
		if e := w.save(); e != api.OK {
			return e
		}
	}
	w.disk.Up()
	anew, e := New(w.seed, w.most, w.disk)
	if e != api.OK {
		return w.told(e)
	}
	*w = *anew
	return api.OK
}
