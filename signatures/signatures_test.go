// Package signatures holds every layer's calls against the chapters: it does not build where one has another signature.
package signatures

import (
	"iter"
	"testing"

	"outcrop/api"
	"outcrop/build"
	"outcrop/cache"
	"outcrop/caves"
	"outcrop/chunk"
	"outcrop/codec"
	"outcrop/disk"
	"outcrop/grid"
	"outcrop/height"
	"outcrop/journal"
	"outcrop/kind"
	"outcrop/ladder"
	"outcrop/light"
	"outcrop/noise"
	"outcrop/num"
	"outcrop/overlay"
	"outcrop/region"
	"outcrop/relight"
	"outcrop/rng"
	"outcrop/shell"
	"outcrop/space"
	"outcrop/store"
	"outcrop/strata"
	"outcrop/veins"
	"outcrop/world"
)

// Layers 1 to 5.
var (
	_ func(int, int) int              = num.Div
	_ func(int, int) int              = num.Mod
	_ func(int, int, int) int         = num.Clamp
	_ func([]byte, int) []byte        = num.Put
	_ func([]byte) (int, int)         = num.Get
	_ func([]byte) uint32             = num.Sum
	_ func(uint64) uint64             = rng.Mix
	_ func(uint64) uint64             = rng.Unmix
	_ func(uint64, int) int           = rng.Below
	_ func(*rng.Stream) uint64        = (*rng.Stream).Next
	_ func(*rng.Stream, int) int      = (*rng.Stream).Below
	_ func(int) int                   = noise.Fade
	_ func(api.Pos) bool              = grid.In
	_ func(api.Pos) api.At            = grid.Chunk
	_ func(api.Pos) int               = grid.Index
	_ func(api.At, int) api.Pos       = grid.Cell
	_ func(api.Box) bool              = grid.Inside
	_ func(api.Box) int               = grid.Count
	_ func(api.At, int) []api.At      = grid.Near
	_ func(int) string                = kind.Name
	_ func(string) (int, bool)        = kind.Of
	_ func(int) bool                  = kind.Opaque
	_ func(int) bool                  = kind.Clear
	_ func(int) int                   = kind.Loss
	_ func(int) int                   = kind.Emits
	_ func(api.Box) iter.Seq[api.Pos] = grid.Each

	_ func(uint64, int, int, int, int) uint64      = rng.Hash
	_ func(uint64, int, int, int, int) *rng.Stream = rng.New
	_ func(uint64, int, int, int) int              = noise.Lattice
	_ func(uint64, int, int, int, int) int         = noise.Flat
	_ func(uint64, int, int, int, int, int) int    = noise.Octaves
)

// Layers 6 to 12.
var (
	_ func() *chunk.Chunk                                    = chunk.New
	_ func(int) *chunk.Chunk                                 = chunk.Full
	_ func([]byte) (*chunk.Chunk, api.Errno)                 = chunk.From
	_ func(*chunk.Chunk, int) int                            = (*chunk.Chunk).Get
	_ func(*chunk.Chunk, int, int) bool                      = (*chunk.Chunk).Set
	_ func(*chunk.Chunk, int, int, int) bool                 = (*chunk.Chunk).Fill
	_ func(*chunk.Chunk, int, int) int                       = (*chunk.Chunk).Top
	_ func(*chunk.Chunk) []int                               = (*chunk.Chunk).Counts
	_ func(*chunk.Chunk) []byte                              = (*chunk.Chunk).Bytes
	_ func(*chunk.Chunk) *chunk.Chunk                        = (*chunk.Chunk).Copy
	_ func(*chunk.Chunk, *chunk.Chunk) []int                 = (*chunk.Chunk).Diff
	_ func(*chunk.Chunk) []byte                              = codec.Encode
	_ func([]byte) (*chunk.Chunk, api.Errno)                 = codec.Decode
	_ func() *disk.Disk                                      = disk.New
	_ func(*disk.Disk, api.File, int, []byte) api.Errno      = (*disk.Disk).Write
	_ func(*disk.Disk, api.File, int) ([]byte, api.Errno)    = (*disk.Disk).Read
	_ func(*disk.Disk, int)                                  = (*disk.Disk).Cut
	_ func(*disk.Disk)                                       = (*disk.Disk).Up
	_ func(*disk.Disk) bool                                  = (*disk.Disk).On
	_ func(*disk.Disk) int                                   = (*disk.Disk).Writes
	_ func(*disk.Disk) []api.File                            = (*disk.Disk).Files
	_ func(*disk.Disk, api.File) int                         = (*disk.Disk).Len
	_ func(*disk.Disk) (*journal.Journal, api.Errno)         = journal.Open
	_ func(*journal.Journal, []api.Put) api.Errno            = (*journal.Journal).Group
	_ func(int, int) (*space.Space, api.Errno)               = space.New
	_ func(*space.Space, api.Span) api.Errno                 = (*space.Space).Mark
	_ func(*space.Space, int) (int, api.Errno)               = (*space.Space).Take
	_ func(*space.Space, api.Span) api.Errno                 = (*space.Space).Free
	_ func(*space.Space) int                                 = (*space.Space).Room
	_ func(*space.Space) int                                 = (*space.Space).Largest
	_ func(*space.Space) []api.Span                          = (*space.Space).Spans
	_ func(*disk.Disk, int, int) (*region.Region, api.Errno) = region.Open
	_ func(int) int                                          = region.Need
	_ func(*region.Region, int) []byte                       = (*region.Region).Get
	_ func(*region.Region) []api.Span                        = (*region.Region).Live
	_ func(*region.Region) []api.Span                        = (*region.Region).Free
	_ func() []api.Rung                                      = ladder.World
	_ func([]api.Rung) bool                                  = ladder.May
	_ func([]api.Rung, int) []int                            = ladder.Radii
	_ func([]api.Rung, int) int                              = ladder.Cap
	_ func([]api.Rung, int, api.At) []api.Task               = ladder.Tasks
	_ func([]api.Rung, api.Task) []api.Task                  = ladder.Needs

	_ func(*region.Region, []api.Change) ([]api.Put, *region.Region, api.Errno) = (*region.Region).Plan
)

// Layers 13 to 19.
var (
	_ func(uint64, int, int) int                   = height.Of
	_ func(uint64, int, int) int                   = height.Band
	_ func(uint64, api.At) ([]int, []int)          = height.Map
	_ func(int, int, int) int                      = strata.At
	_ func([]int, []int) (*chunk.Chunk, api.Errno) = strata.Fill
	_ func(uint64, api.Pos) bool                   = caves.Seedling
	_ func(uint64, api.Pos) int                    = veins.Of
	_ func(*relight.Field, int, int) api.Errno     = (*relight.Field).Set
	_ func(*relight.Field) []byte                  = (*relight.Field).Kinds
	_ func(*relight.Field) []byte                  = (*relight.Field).Sky
	_ func(*relight.Field) []byte                  = (*relight.Field).Lamp

	_ func(uint64, api.At, []*chunk.Chunk) (*chunk.Chunk, api.Errno)                 = caves.Carve
	_ func(uint64, api.At, *chunk.Chunk) (*chunk.Chunk, api.Errno)                   = veins.Apply
	_ func(uint64, api.At, *chunk.Chunk, [][]int, [][]int) (*chunk.Chunk, api.Errno) = build.Apply
	_ func([]*chunk.Chunk) ([]byte, []byte, api.Errno)                               = light.Flood
	_ func(int, int, int, []byte) (*relight.Field, api.Errno)                        = relight.New
)

// Layers 20 to 24.
var (
	_ func(*chunk.Chunk, *chunk.Chunk) (*overlay.Overlay, api.Errno) = overlay.New

	_ func(*overlay.Overlay, int) int            = (*overlay.Overlay).Get
	_ func(*overlay.Overlay, int, int) api.Errno = (*overlay.Overlay).Set
	_ func(*overlay.Overlay) *chunk.Chunk        = (*overlay.Overlay).Final
	_ func(*overlay.Overlay) *chunk.Chunk        = (*overlay.Overlay).Edits
	_ func(*overlay.Overlay) int                 = (*overlay.Overlay).Many
	_ func(*overlay.Overlay) bool                = (*overlay.Overlay).Dirty
	_ func(*overlay.Overlay)                     = (*overlay.Overlay).Clean

	_ func(int) *cache.Cache[string]                    = cache.New[string]
	_ func(*cache.Cache[string], api.At, string)        = (*cache.Cache[string]).Put
	_ func(*cache.Cache[string], api.At) (string, bool) = (*cache.Cache[string]).Get
	_ func(*cache.Cache[string], api.At) bool           = (*cache.Cache[string]).Pin
	_ func(*cache.Cache[string], api.At) bool           = (*cache.Cache[string]).Unpin
	_ func(*cache.Cache[string], api.At) bool           = (*cache.Cache[string]).Drop
	_ func(*cache.Cache[string]) []api.At               = (*cache.Cache[string]).Trim
	_ func(*cache.Cache[string]) []api.At               = (*cache.Cache[string]).Keys
	_ func(*cache.Cache[string]) int                    = (*cache.Cache[string]).Pinned

	_ func(*disk.Disk) (*store.Store, api.Errno)               = store.Open
	_ func(*store.Store, api.At) (*chunk.Chunk, api.Errno)     = (*store.Store).Load
	_ func(*store.Store, api.At, *chunk.Chunk) api.Errno       = (*store.Store).Reserve
	_ func(*store.Store, []api.Edit) api.Errno                 = (*store.Store).Save
	_ func(*store.Store, int, int) (*region.Region, api.Errno) = (*store.Store).Region

	_ func(uint64, int, *disk.Disk) (*world.World, api.Errno) = world.New
	_ func(*world.World, api.Pos) (int, api.Errno)            = (*world.World).Get
	_ func(*world.World, api.Pos, int) api.Errno              = (*world.World).Set
	_ func(*world.World, api.Pos) (int, int, api.Errno)       = (*world.World).Light
	_ func(*world.World, api.Box) ([]byte, api.Errno)         = (*world.World).Scan
	_ func(*world.World, api.At) api.Errno                    = (*world.World).Evict
	_ func(*world.World) api.Errno                            = (*world.World).Sync
	_ func(*world.World) api.Errno                            = (*world.World).Reopen
	_ func(*world.World) api.Stat                             = (*world.World).Stat

	_ func(uint64, int, string) (string, api.Errno, int) = shell.Run
)

// That this runs is all of it: the lines above are told apart by the compiler.
func TestSignatures(t *testing.T) {}
