// Package distaff: a runtime whose workers steal, and whose answers do not show it: see DOC.md.
package distaff

import (
	"distaff/api"
	"distaff/code"
	"distaff/crew"
	"distaff/serial"
)

// Program is one that may be run.
type Program struct {
	code *code.Code
}

// New looks at a program (P3).
func New(funcs [][]api.Ins, reducers []int) (*Program, api.Errno, int) {
	if e, at := code.Check(funcs, reducers); e != api.OK {
		return nil, e, at
	}
	return &Program{code: code.Copy(funcs, reducers)}, api.OK, 0
}

// Serial runs it without workers (P4).
func (p *Program) Serial(seed uint64, argument int64) api.Outcome {
	return serial.Run(p.code, seed, argument)
}

// Run runs it by workers (P5).
func (p *Program) Run(seed uint64, argument int64, workers int, script []api.Pick) (api.Outcome, api.Errno) {
	if e := crew.Check(workers, script); e != api.OK {
		return api.Outcome{}, e
	}
	return crew.Run(p.code, seed, argument, workers, script), api.OK
}

// Sweep runs it by several scripts (P6).
func (p *Program) Sweep(seed uint64, argument int64, workers int, scripts [][]api.Pick) ([]api.Outcome, api.Errno) {
	if e := crew.Check(workers, scripts...); e != api.OK {
		return nil, e
	}
	return crew.Sweep(p.code, seed, argument, workers, scripts), api.OK
}
