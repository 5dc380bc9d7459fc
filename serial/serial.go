// Package serial: a program that is run through from the beginning to the end by one alone.
package serial

import (
	"iter"

	"distaff/api"
	"distaff/code"
	"distaff/frame"
	"distaff/gather"
)

// Run tells how the program goes if each Spawn is done as a Call.
func Run(c *code.Code, seed uint64, argument int64) api.Outcome {
	var o api.Outcome
	for event := range events(c, frame.Root(seed, argument)) {
		o.Trace = append(o.Trace, event)
	}
	o.Values = gather.Values(c.Kinds(), o.Trace)
	o.Stats.Frames = c.Frames()
	return o
}

// events yields what the reducers are given, in the serial order.
func events(c *code.Code, root frame.Frame) iter.Seq[api.Event] {
	return func(yield func(api.Event) bool) { walk(c, &root, yield) }
}

// walk answers whether more is wanted. Its depth is bounded: what a function begins has a greater number.
func walk(c *code.Code, f *frame.Frame, yield func(api.Event) bool) bool {
	for ins := range c.Body(f.Func) {
		if !do(c, f, ins, yield) {
			return false
		}
	}
	return true
}

func do(c *code.Code, f *frame.Frame, ins api.Ins, yield func(api.Event) bool) bool {
	switch ins.Op {
	case api.Put:
		return yield(api.Event{R: ins.R, N: f.Number(ins)})
	case api.Draw:
		return yield(api.Event{R: ins.R, N: f.Draw(ins.K)})
	case api.Spawn, api.Call:
		child := f.Begin(ins)
		return walk(c, &child, yield)
	case api.Sync:
		f.Sync()
	}
	return true
}
