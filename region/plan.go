package region

import "outcrop/api"

// Plan is which blocks have to be written for some changes, and the region as it is then.
func (r *Region) Plan(l []api.Change) ([]api.Put, *Region, api.Errno) {
	if r == nil || !apart(l) {
		return nil, nil, api.ErrArg
	}
	if !r.fits(l) {
		return nil, nil, api.ErrRegionFull
	}
	next := r.with(l)
	next.lay()
	return next.blocks(), next, api.OK
}

// apart tells whether all changes are of slots that there are, each of another one.
func apart(l []api.Change) bool {
	var seen [api.Slots]bool
	for _, c := range l {
		if !known(c.Slot) || seen[c.Slot] {
			return false
		}
		seen[c.Slot] = true
	}
	return true
}

// fits tells whether there are sectors enough, wherever they lie. It counts ahead of any copy, since what is handed in may be long.
func (r *Region) fits(l []api.Change) bool {
	var lengths [api.Slots]int
	for i, s := range r.slots {
		lengths[i] = len(s.data)
	}
	for _, c := range l {
		lengths[c.Slot] = len(c.Data)
	}
	many := api.HeadSectors
	for _, n := range lengths {
		many += Need(n)
	}
	return many <= api.RegionSectors
}

// with is the region with some changes, whose slots have no sectors yet. Appending to nothing leaves nil where there are no bytes, as Open has it.
func (r *Region) with(l []api.Change) *Region {
	next := *r
	for _, c := range l {
		next.slots[c.Slot] = slot{data: append([]byte(nil), c.Data...)}
	}
	return &next
}

// lay gives sectors to all slots that lack them. Where the free ones lie too far apart all slots are laid anew, one behind the other; there are enough of them, so that this never fails.
func (r *Region) lay() {
	if r.give() {
		return
	}
	for i := range r.slots {
		r.slots[i].at = api.Span{}
	}
	r.give()
}

// give takes free sectors for each slot that lacks them, and tells whether that went for all of them.
func (r *Region) give() bool {
	free := r.room()
	for i, s := range r.slots {
		many := Need(len(s.data))
		if many == s.at.Many {
			continue
		}
		from, e := free.Take(many)
		if e != api.OK {
			return false
		}
		r.slots[i].at = api.Span{From: from, Many: many}
	}
	return true
}

// blocks are all that the region has, also those that were not changed: so they hold whatever else was planned or written to the file since this region was opened.
func (r *Region) blocks() []api.Put {
	var l []api.Put
	bytesAt := r.bytesAt()
	for i := range api.RegionSectors {
		if b := bytesAt(i); b != nil {
			l = append(l, api.Put{F: r.file(), I: i, B: b})
		}
	}
	return l
}

// bytesAt tells what has to stand in a sector; nil, if it is nobody's.
func (r *Region) bytesAt() func(int) []byte {
	head := r.header()
	return func(i int) []byte {
		if i < api.HeadSectors {
			return sector(head, i)
		}
		for _, s := range r.slots {
			if k := i - s.at.From; k >= 0 && k < s.at.Many {
				return sector(s.data, k)
			}
		}
		return nil
	}
}

// sector is those of some bytes that stand in the sector of that number, counted from their first one, with noughts behind the last byte.
func sector(b []byte, k int) []byte {
	out := make([]byte, api.BlockSize)
	copy(out, b[k*api.BlockSize:])
	return out
}
