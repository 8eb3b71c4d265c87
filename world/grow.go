package world

import (
	"outcrop/api"
	"outcrop/build"
	"outcrop/caves"
	"outcrop/chunk"
	"outcrop/grid"
	"outcrop/height"
	"outcrop/ladder"
	"outcrop/light"
	"outcrop/overlay"
	"outcrop/strata"
	"outcrop/veins"
)

// stages is what is kept of a chunk: those of its stages that were computed, the blocks with their edits. Caves and veins go when the blocks are there, since no other chunk reads them.
type stages struct {
	heights, bands       []int
	strata, caves, veins *chunk.Chunk
	blocks               *overlay.Overlay
	sky, lamps           []byte
}

// has tells whether a stage is there.
func (s *stages) has(stage int) bool {
	switch stage {
	case api.StHeight:
		return s.heights != nil
	case api.StStrata:
		return s.strata != nil
	case api.StCaves:
		return s.caves != nil
	case api.StVeins:
		return s.veins != nil
	case api.StBuild:
		return s.blocks != nil
	default:
		return s.sky != nil
	}
}

// demand is the stages of a chunk, among them one that is asked for. All that it was grown from is pinned meanwhile, so that none of it is computed twice. The chunk itself is the one that was used last, so that it stays, however few may.
func (w *World) demand(t api.Task) (*stages, api.Errno) {
	defer w.letGo()
	if e := w.grow(t); e != api.OK {
		return nil, e
	}
	return w.hold(t.C), api.OK
}

// hold is what is kept of a chunk, which is pinned and may be filled from now on.
func (w *World) hold(c api.At) *stages {
	s, is := w.kept.Get(c)
	if !is {
		s = &stages{}
		w.kept.Put(c, s)
	}
	if w.kept.Pin(c) {
		w.pinned = append(w.pinned, c)
	}
	return s
}

// letGo lets all go that was pinned, and as much of what is kept as is too much.
func (w *World) letGo() {
	for _, c := range w.pinned {
		w.kept.Unpin(c)
	}
	w.pinned = nil
	w.kept.Trim()
}

// grow has a stage of a chunk computed, and ahead of it those that it reads, as far as they are not there.
func (w *World) grow(t api.Task) api.Errno {
	if w.hold(t.C).has(t.Stage) {
		return api.OK
	}
	for _, lower := range ladder.Needs(ladder.World(), t) {
		if e := w.grow(lower); e != api.OK {
			return e
		}
	}
	e := w.compute(t)
	if e == api.OK {
		w.computed++
	}
	return e
}

// compute computes a stage from those that it reads.
func (w *World) compute(t api.Task) (e api.Errno) {
	s := w.hold(t.C)
	switch t.Stage {
	case api.StHeight:
		s.heights, s.bands = height.Map(w.seed, t.C)
	case api.StStrata:
		s.strata, e = strata.Fill(s.heights, s.bands)
	case api.StCaves:
		s.caves, e = caves.Carve(w.seed, t.C, near(w, t.C, func(x *stages) *chunk.Chunk { return x.strata }))
	case api.StVeins:
		s.veins, e = veins.Apply(w.seed, t.C, s.caves)
	case api.StBuild:
		e = w.build(t.C, s)
	default:
		s.sky, s.lamps, e = light.Flood(near(w, t.C, func(x *stages) *chunk.Chunk { return x.blocks.Final() }))
	}
	return e
}

// build is the stage of a chunk's generated blocks, over which its edits are laid at once. Of wrong lists there would be no blocks, and of no blocks no overlay.
func (w *World) build(c api.At, s *stages) api.Errno {
	edits, e := w.edits(c)
	if e != api.OK {
		return e
	}
	heights := near(w, c, func(x *stages) []int { return x.heights })
	bands := near(w, c, func(x *stages) []int { return x.bands })
	generated, _ := build.Apply(w.seed, c, s.veins, heights, bands)
	s.blocks, e = overlay.New(generated, edits)
	s.caves, s.veins = nil, nil
	return e
}

// reach is how far away, in chunks, a chunk is that reads another one's stage.
const reach = 1

// near is what the nine chunks near one have of something.
func near[V any](w *World, c api.At, of func(x *stages) V) []V {
	var l []V
	for _, at := range grid.Near(c, reach) {
		l = append(l, of(w.hold(at)))
	}
	return l
}

// forgetLight lets the light go that a chunk's blocks may reach.
func (w *World) forgetLight(c api.At) {
	for _, at := range grid.Near(c, reach) {
		if s, is := w.kept.Get(at); is {
			s.sky, s.lamps = nil, nil
		}
	}
}
