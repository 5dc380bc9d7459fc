// Package frame: a function that is being run: its argument, its rank, and what it draws.
package frame

import "distaff/api"

// Frame is a function that is being run with an argument.
type Frame struct {
	Func int
	X    int64
	// trail is the seed with the ranks of the frames above mixed in: they stay as they were when this frame began, so their list need not be kept.
	trail uint64
	rank  uint64
}

// Root is the frame by which a run begins.
func Root(seed uint64, argument int64) Frame {
	return Frame{X: argument, trail: seed}
}

// Number is what an instruction makes of the argument.
func (f *Frame) Number(ins api.Ins) int64 { return ins.K + ins.L*f.X }

// Begin does a Spawn or a Call, as far as it is this frame's: it gives the new frame.
func (f *Frame) Begin(ins api.Ins) Frame {
	child := Frame{Func: ins.F, X: f.Number(ins), trail: mix(f.trail, f.rank)}
	f.rank++
	return child
}

// Draw does a Draw: it gives a number from 0 to k - 1.
func (f *Frame) Draw(k int64) int64 {
	h := mix(f.trail, f.rank)
	f.rank++
	return int64(finish(h) % uint64(k))
}

// Sync does a Sync, as far as it is this frame's; that at a frame's end is none.
func (f *Frame) Sync() { f.rank++ }

func mix(h, rank uint64) uint64 { return (h ^ (rank + 1)) * api.Prime }

func finish(h uint64) uint64 {
	h ^= h >> 31
	h *= api.Gold
	return h ^ h>>29
}
