package codec

import (
	"outcrop/api"
	"outcrop/chunk"
	"outcrop/num"
)

// reader is the bytes that were not read yet. What may not be read gives up by a panic with the error's number, so that each step reads on as if all were well, and the first fault is the one that is told.
type reader struct{ left []byte }

// check gives up with that error where something does not hold.
func check(holds bool, e api.Errno) {
	if !holds {
		panic(e)
	}
}

// take is the next bytes, so many.
func (r *reader) take(many int) []byte {
	check(len(r.left) >= many, api.ErrShort)
	b := r.left[:many]
	r.left = r.left[many:]
	return b
}

// chunk is the chunk that all the bytes tell.
func (r *reader) chunk() *chunk.Chunk {
	head := r.take(headSize)
	form, many := head[0], int(head[1])
	check(form == formRuns || form == formPacked, api.ErrForm)
	check(many >= 1 && many <= allKinds, api.ErrForm)
	p := r.palette(many)
	c := chunk.New()
	if form == formRuns {
		r.runs(p, c)
	} else {
		r.packed(p, c)
	}
	check(len(r.left) == 0, api.ErrLong)
	return c
}

// palette is the kinds that cells are told by. All of them must be there ahead of one being looked at.
func (r *reader) palette(many int) palette {
	p := palette{many: many}
	last := -1
	for i, k := range r.take(many) {
		check(int(k) > last && int(k) < allKinds, api.ErrForm)
		p.kinds[i] = k
		last = int(k)
	}
	return p
}

// kind is what stands at a place of the palette.
func (p palette) kind(place int) int {
	check(place < p.many, api.ErrForm)
	return int(p.kinds[place])
}

// runs are the cells as runs. Each is held against the cells that are lacking ahead of its place being read.
func (r *reader) runs(p palette, c *chunk.Chunk) {
	for next := 0; next < api.Cells; {
		many := r.number(api.Cells - next)
		k := p.kind(int(r.take(1)[0]))
		for i := range many {
			c.Set(next+i, k)
		}
		next += many
	}
}

// number is how many cells a run has. Where num's Get tells none it answers 0, which is no run either.
func (r *reader) number(most int) int {
	check(len(r.left) > 0, api.ErrShort)
	n, size := num.Get(r.left)
	check(n >= 1 && n <= most, api.ErrForm)
	r.take(size)
	return n
}

// packed are the cells as packed numbers. That there are enough bytes is asked ahead of any place.
func (r *reader) packed(p palette, c *chunk.Chunk) {
	w := p.width()
	b := r.take(packedSize(w))
	for i := range api.Cells {
		at := i * w
		place := int(b[at/byteBits]) >> (at % byteBits) & (1<<w - 1)
		c.Set(i, p.kind(place))
	}
}
