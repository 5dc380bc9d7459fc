// Package crew: a program that is run by workers, who steal from one another.
package crew

import (
	"iter"
	"slices"

	"distaff/api"
	"distaff/code"
	"distaff/frame"
	"distaff/gather"
)

// Check tells the first error of what a run or a sweep is told beside the program, in the order of P5 and P6.
func Check(workers int, scripts ...[]api.Pick) api.Errno {
	if workers < 1 || workers > api.MaxWorkers {
		return api.ErrWorkers
	}
	if len(scripts) > api.MaxScripts || slices.ContainsFunc(scripts, isTooLong) {
		return api.ErrScript
	}
	return api.OK
}

func isTooLong(script []api.Pick) bool { return len(script) > api.MaxPicks }

// Run tells how the program goes by workers and a script that have passed Check.
func Run(c *code.Code, seed uint64, argument int64, workers int, script []api.Pick) api.Outcome {
	o := api.Outcome{Stats: api.Stats{Frames: c.Frames()}}
	inOrder := make([]api.Event, c.Gifts(0))
	root := newTask(c, frame.Root(seed, argument))
	for s := range steps(c, root, workers, script) {
		o.Stats.Steps++
		switch s.kind {
		case gave:
			o.Trace = append(o.Trace, s.event)
			inOrder[s.place] = s.event
		case stole:
			o.Stats.Steals++
		case failed:
			o.Stats.Fails++
		}
	}
	o.Values = gather.Values(c.Kinds(), inOrder)
	return o
}

// steps yields what the workers do, till all is done. That comes to pass: in each round whoever has a frame at hand does a part of it, and somebody has one as long as a frame has not ended.
func steps(c *code.Code, root *task, workers int, script []api.Pick) iter.Seq[step] {
	return func(yield func(step) bool) {
		crew := make([]worker, workers)
		for w := range crew {
			crew[w].number = w
		}
		crew[0].hand = root
		for w, victim := range turns(workers, script) {
			s := crew[w].step(c, &crew[victim])
			if !yield(s) || s.kind == finished {
				return
			}
		}
	}
}
