package journal

import (
	"slices"

	"outcrop/api"
	"outcrop/disk"
	"outcrop/num"
)

// What a block of the journal's own is made of: whole numbers, the lowest byte first.
const (
	byteBits    = 8
	numberBytes = 8
	numbers     = api.BlockSize / numberBytes
)

// row is the numbers of such a block. All of an api.Put but its bytes has room in one.
type row [numbers]int

// bytes are a row as a block.
func (r row) bytes() []byte {
	b := make([]byte, api.BlockSize)
	for i := range b {
		b[i] = byte(r[i/numberBytes] >> (i % numberBytes * byteBits))
	}
	return b
}

// rowOf is the row that a block has.
func rowOf(b []byte) row {
	var r row
	for i, c := range b {
		r[i/numberBytes] |= int(c) << (i % numberBytes * byteBits)
	}
	return r
}

// group is blocks that are written whole or not at all. In the journal's file stand its HEAD, and behind that two NOTES for each of its blocks: where it goes, and its bytes. The head is written behind the last note, and noughts over it behind the last of the blocks: as long as a head is there, all notes are, and the blocks may be written from them as often as it takes.
type group struct{ list []api.Put }

// own is a block of the journal's file.
func own(i int, b []byte) api.Put {
	return api.Put{F: api.File{Kind: api.FileJournal}, I: i, B: b}
}

// noteAt is which block of the file tells where a block of the group goes. Its bytes stand in the next one.
func noteAt(k int) int { return 1 + 2*k }

// notes tell all of the group.
func (g group) notes() []api.Put {
	l := make([]api.Put, 0, 2*len(g.list))
	for k, p := range g.list {
		where := row{p.F.Kind, p.F.X, p.F.Z, p.I}
		l = append(l, own(noteAt(k), where.bytes()), own(noteAt(k)+1, p.B))
	}
	return l
}

// head says how many blocks the group has, with a sum of all its notes.
func (g group) head() []api.Put {
	var all []byte
	for _, p := range g.notes() {
		all = append(all, p.B...)
	}
	r := row{len(g.list), int(num.Sum(all))}
	return []api.Put{own(0, r.bytes())}
}

// blocks are the group's own.
func (g group) blocks() []api.Put { return g.list }

// end takes the head away.
func (g group) end() []api.Put { return []api.Put{own(0, row{}.bytes())} }

// left is the group whose head stands in the journal's file; one of no blocks, if none does. Only the notes of a whole group are ever told: what else stands there no journal has written.
func left(d *disk.Disk) (group, api.Errno) {
	head, e := readOwn(d, 0)
	if e != api.OK || rowOf(head) == (row{}) {
		return group{}, e
	}
	many := rowOf(head)[0]
	if many < 1 || many > api.JournalCap {
		return group{}, api.ErrSum
	}
	g, e := noted(d, many)
	if e != api.OK {
		return group{}, e
	}
	if check(g.list) != api.OK || !slices.Equal(head, g.head()[0].B) {
		return group{}, api.ErrSum
	}
	return g, api.OK
}

// noted is the group that so many notes tell.
func noted(d *disk.Disk, many int) (group, api.Errno) {
	l := make([]api.Put, many)
	for k := range l {
		where, e := readOwn(d, noteAt(k))
		if e != api.OK {
			return group{}, e
		}
		b, e := readOwn(d, noteAt(k)+1)
		if e != api.OK {
			return group{}, e
		}
		r := rowOf(where)
		l[k] = api.Put{F: api.File{Kind: r[0], X: r[1], Z: r[2]}, I: r[3], B: b}
	}
	return group{l}, api.OK
}

// readOwn is the bytes of a block of the journal's file.
func readOwn(d *disk.Disk, i int) ([]byte, api.Errno) { return d.Read(own(i, nil).F, i) }
