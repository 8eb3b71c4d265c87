package store

import (
	"slices"

	"outcrop/api"
	"outcrop/chunk"
)

// part is those of some edits that are of one region.
type part struct {
	in      api.At
	changes []api.Change
}

// plan tells what is written of a region.
type plan func() ([]api.Put, api.Errno)

// Save writes chunks' edits, all or none. That there are too many blocks the journal tells, ahead of writing any.
func (s *Store) Save(l []api.Edit) api.Errno {
	parts, e := parted(l)
	if e != api.OK {
		return e
	}
	if s == nil {
		return api.ErrDown
	}
	plans, e := s.plans(parts)
	if e != api.OK {
		return e
	}
	puts, e := blocks(plans)
	if e != api.OK {
		return e
	}
	if e := s.journal.Group(puts); e != api.OK {
		return e
	}
	clear(s.reserved)
	return api.OK
}

// parted is edits by regions. Whatever may not be among them is told ahead of any region, so that all are looked at first.
func parted(l []api.Edit) ([]part, api.Errno) {
	var parts []part
	places := map[api.At]int{}
	for _, x := range l {
		edits, e := chunk.From(x.Cells)
		if e != api.OK {
			return nil, api.ErrArg
		}
		in, slot := home(x.C)
		i, is := places[in]
		if !is {
			i = len(parts)
			places[in] = i
			parts = append(parts, part{in: in})
		}
		if parts[i].has(slot) {
			return nil, api.ErrArg
		}
		parts[i].changes = append(parts[i].changes, api.Change{Slot: slot, Data: bytesOf(edits)})
	}
	return parts, api.OK
}

// has tells whether a slot is changed already, which is to say that its chunk stands among the edits twice.
func (p part) has(slot int) bool {
	return slices.ContainsFunc(p.changes, func(x api.Change) bool { return x.Slot == slot })
}

// plans opens all regions ahead of planning any, since that one cannot be read is told ahead of another one's being full.
func (s *Store) plans(parts []part) ([]plan, api.Errno) {
	var plans []plan
	for _, p := range parts {
		r, e := s.Region(p.in.X, p.in.Z)
		if e != api.OK {
			return nil, e
		}
		plans = append(plans, func() ([]api.Put, api.Errno) {
			puts, _, e := r.Plan(p.changes)
			return puts, e
		})
	}
	return plans, api.OK
}

// blocks are all that is written, of one region behind the other.
func blocks(plans []plan) ([]api.Put, api.Errno) {
	var all []api.Put
	for _, plan := range plans {
		puts, e := plan()
		if e != api.OK {
			return nil, e
		}
		all = append(all, puts...)
	}
	return all, api.OK
}
