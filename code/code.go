// Package code: a program as New was given it: whether it may be, and its instructions.
package code

import (
	"iter"
	"slices"

	"distaff/api"
)

// Code is a program that Check has found nothing against.
type Code struct {
	funcs  [][]api.Ins
	kinds  []int
	frames int
}

// Copy takes over a program that has passed Check; it keeps none of the lists.
func Copy(funcs [][]api.Ins, reducers []int) *Code {
	c := &Code{kinds: append([]int(nil), reducers...), frames: countFrames(funcs)}
	for _, body := range funcs {
		c.funcs = append(c.funcs, append([]api.Ins(nil), body...))
	}
	return c
}

// Body yields the instructions of the function f.
func (c *Code) Body(f int) iter.Seq[api.Ins] { return each(c.funcs[f]) }

// Kinds yields the reducers' numbers and kinds.
func (c *Code) Kinds() iter.Seq2[int, int] { return slices.All(c.kinds) }

// Frames tells how many frames every run has: no instruction is left out, whatever the argument.
func (c *Code) Frames() int { return c.frames }

// each is the one way by which a function's instructions are gone through.
func each(body []api.Ins) iter.Seq[api.Ins] { return slices.Values(body) }

// countFrames goes from the last function to the first: what a function begins has a greater number, so that its count is there already.
// The greatest count there is, ten of each in eight functions, is about 11 million: it fits into an int of 32 bits.
func countFrames(funcs [][]api.Ins) int {
	counts := make([]int, len(funcs))
	for f, body := range slices.Backward(funcs) {
		counts[f] = 1
		for ins := range each(body) {
			if ins.Op == api.Spawn || ins.Op == api.Call {
				counts[f] += counts[ins.F]
			}
		}
	}
	return counts[0]
}
