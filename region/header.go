package region

import (
	"outcrop/api"
	"outcrop/space"
)

// What the header has of each slot: FROM, MANY, and two bytes of LENGTH.
const (
	entryBytes = 4
	byteBits   = 8
)

// entry is what the header has of a slot. LENGTH has room in two bytes, since all sectors together have 1216.
func (s slot) entry() [entryBytes]byte {
	n := len(s.data)
	return [entryBytes]byte{byte(s.at.From), byte(s.at.Many), byte(n), byte(n >> byteBits)}
}

// header is all entries. Those of 16 slots fill two sectors, with nothing behind them.
func (r *Region) header() []byte {
	var head []byte
	for _, s := range r.slots {
		b := s.entry()
		head = append(head, b[:]...)
	}
	return head
}

// place gives the slots of a region that has none yet the sectors that a header tells, and is how many bytes each one has. ErrForm: it is no header.
func (r *Region) place(head []byte) ([api.Slots]int, api.Errno) {
	var lengths [api.Slots]int
	taken := r.room()
	for i := range lengths {
		var b [entryBytes]byte
		copy(b[:], head[i*entryBytes:])
		if b == ([entryBytes]byte{}) {
			continue
		}
		at := api.Span{From: int(b[0]), Many: int(b[1])}
		n := int(b[2]) | int(b[3])<<byteBits
		// Mark refuses what is beyond the sectors, the header's own, and what another slot has.
		if n < 1 || at.Many != Need(n) || taken.Mark(at) != api.OK {
			return [api.Slots]int{}, api.ErrForm
		}
		r.slots[i].at, lengths[i] = at, n
	}
	return lengths, api.OK
}

// room is which sectors are free: all but the header's and the slots'.
func (r *Region) room() *space.Space {
	free, _ := space.New(api.RegionSectors, api.HeadSectors)
	for _, s := range r.slots {
		// A slot that has nothing has no span that may be: Mark refuses it, and takes none.
		free.Mark(s.at)
	}
	return free
}
