// Package code: a program as New was given it: whether it may be, and its instructions.
package code

import (
	"iter"
	"slices"

	"distaff/api"
)

// Code is a program that Check has found nothing against.
type Code struct {
	funcs [][]api.Ins
	kinds []int
	sizes []size
}

// size is what a frame of a function comes to, with all the frames that it begins. It is the same in every run: no instruction is left out, whatever the argument.
type size struct {
	frames, gifts int
}

// Copy takes over a program that has passed Check; it keeps none of the lists.
func Copy(funcs [][]api.Ins, reducers []int) *Code {
	c := &Code{kinds: append([]int(nil), reducers...), sizes: measure(funcs)}
	for _, body := range funcs {
		c.funcs = append(c.funcs, append([]api.Ins(nil), body...))
	}
	return c
}

// Body yields the instructions of the function f.
func (c *Code) Body(f int) iter.Seq[api.Ins] { return each(c.funcs[f]) }

// Kinds yields the reducers' numbers and kinds.
func (c *Code) Kinds() iter.Seq2[int, int] { return slices.All(c.kinds) }

// Frames tells how many frames a run has.
func (c *Code) Frames() int { return c.sizes[0].frames }

// Gifts tells how many numbers the reducers are given by a frame of the function f and all that it begins.
func (c *Code) Gifts(f int) int { return c.sizes[f].gifts }

// each is the one way by which a function's instructions are gone through.
func each(body []api.Ins) iter.Seq[api.Ins] { return slices.Values(body) }

// measure goes from the last function to the first: what a function begins has a greater number, so that its size is there already.
// The greatest sizes there are, ten of each in eight functions, are some 11 million frames and 100 million gifts: they fit into an int of 32 bits.
func measure(funcs [][]api.Ins) []size {
	sizes := make([]size, len(funcs))
	for f, body := range slices.Backward(funcs) {
		sizes[f].frames = 1
		for ins := range each(body) {
			switch ins.Op {
			case api.Put, api.Draw:
				sizes[f].gifts++
			case api.Spawn, api.Call:
				sizes[f].frames += sizes[ins.F].frames
				sizes[f].gifts += sizes[ins.F].gifts
			}
		}
	}
	return sizes
}
