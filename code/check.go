package code

import "distaff/api"

// Check tells the first error of a program, in the order of P3, and its place.
func Check(funcs [][]api.Ins, reducers []int) (api.Errno, int) {
	if len(funcs) < 1 || len(funcs) > api.MaxFuncs {
		return api.ErrFuncs, 0
	}
	if at, bad := badReducer(reducers); bad {
		return api.ErrReduce, at
	}
	if at, bad := badFunction(funcs, len(reducers)); bad {
		return api.ErrIns, at
	}
	if measure(funcs)[0].frames > api.MaxFrames {
		return api.ErrFrames, 0
	}
	return api.OK, 0
}

func badReducer(reducers []int) (int, bool) {
	if len(reducers) > api.MaxReduce {
		return 0, true
	}
	for r, kind := range reducers {
		if !isKind(kind) {
			return r, true
		}
	}
	return 0, false
}

func isKind(kind int) bool {
	switch kind {
	case api.Sum, api.Most, api.Least, api.List, api.Last:
		return true
	}
	return false
}

func badFunction(funcs [][]api.Ins, reducers int) (int, bool) {
	for f, body := range funcs {
		if len(body) > api.MaxIns {
			return f, true
		}
		for ins := range each(body) {
			if !mayBe(ins, f, len(funcs), reducers) {
				return f, true
			}
		}
	}
	return 0, false
}

// mayBe: what an instruction does not need must be 0, so that each kind is held against all fields.
func mayBe(ins api.Ins, in, funcs, reducers int) bool {
	hasReducer := ins.R >= 0 && ins.R < reducers
	hasFunction := ins.F > in && ins.F < funcs
	switch ins.Op {
	case api.Put:
		return hasReducer && ins.F == 0
	case api.Draw:
		return hasReducer && ins.F == 0 && ins.K >= 1 && ins.L == 0
	case api.Spawn, api.Call:
		return hasFunction && ins.R == 0
	case api.Sync:
		return ins == api.Ins{Op: api.Sync}
	}
	return false
}
