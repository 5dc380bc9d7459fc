package distaff_test

import (
	"math/rand"
	"slices"
	"testing"

	"distaff/api"
	"distaff/distaff"
)

func put(r int, k, l int64) api.Ins { return api.Ins{Op: api.Put, R: r, K: k, L: l} }

func draw(r int, k int64) api.Ins { return api.Ins{Op: api.Draw, R: r, K: k} }

func spawn(f int, k, l int64) api.Ins { return api.Ins{Op: api.Spawn, F: f, K: k, L: l} }

func call(f int, k, l int64) api.Ins { return api.Ins{Op: api.Call, F: f, K: k, L: l} }

func sync() api.Ins { return api.Ins{Op: api.Sync} }

func times(n int, ins api.Ins) []api.Ins { return slices.Repeat([]api.Ins{ins}, n) }

func program(t *testing.T, reducers []int, funcs ...[]api.Ins) *distaff.Program {
	t.Helper()
	p, e, at := distaff.New(funcs, reducers)
	if p == nil || e != api.OK || at != 0 {
		t.Fatalf("New: %v, %d, %d", p, e, at)
	}
	return p
}

func sameValues(a, b []api.Value) bool {
	return slices.EqualFunc(a, b, func(v, w api.Value) bool {
		return v.N == w.N && v.Is == w.Is && slices.Equal(v.L, w.L)
	})
}

func sameOutcome(a, b api.Outcome) bool {
	return sameValues(a.Values, b.Values) && slices.Equal(a.Trace, b.Trace) && a.Stats == b.Stats
}

// randomIns: an instruction that may be, of the function f of funcs.
func randomIns(r *rand.Rand, f, funcs, reducers int) api.Ins {
	for {
		switch op := 1 + r.Intn(5); {
		case op == api.Put && reducers > 0:
			return put(r.Intn(reducers), int64(r.Uint64()), int64(r.Uint64()))
		case op == api.Draw && reducers > 0:
			return draw(r.Intn(reducers), 1+r.Int63n(1<<uint(1+r.Intn(62))))
		case op == api.Spawn && f+1 < funcs:
			return spawn(f+1+r.Intn(funcs-f-1), int64(r.Intn(9)), int64(r.Intn(9)-4))
		case op == api.Call && f+1 < funcs:
			return call(f+1+r.Intn(funcs-f-1), int64(r.Uint64()), int64(r.Uint64()))
		case op == api.Sync:
			return sync()
		}
	}
}

func randomProgram(r *rand.Rand) ([][]api.Ins, []int) {
	funcs := make([][]api.Ins, 1+r.Intn(api.MaxFuncs))
	reducers := make([]int, r.Intn(api.MaxReduce+1))
	for i := range reducers {
		reducers[i] = 1 + r.Intn(5)
	}
	for f := range funcs {
		for range r.Intn(api.MaxIns + 1) {
			funcs[f] = append(funcs[f], randomIns(r, f, len(funcs), len(reducers)))
		}
	}
	return funcs, reducers
}
