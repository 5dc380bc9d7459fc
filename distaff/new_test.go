package distaff_test

import (
	"math"
	"math/rand"
	"testing"

	"distaff/api"
	"distaff/distaff"
)

type newCase struct {
	name     string
	funcs    [][]api.Ins
	reducers []int
	e        api.Errno
	at       int
}

func checkNew(t *testing.T, cases []newCase) {
	t.Helper()
	for _, c := range cases {
		p, e, at := distaff.New(c.funcs, c.reducers)
		if (p != nil) != (c.e == api.OK) || e != c.e || at != c.at {
			t.Errorf("%s: New: %v, %d, %d, want %d, %d", c.name, p != nil, e, at, c.e, c.at)
		}
	}
}

func empty(n int) [][]api.Ins { return make([][]api.Ins, n) }

func one(ins api.Ins) [][]api.Ins { return [][]api.Ins{{ins}, nil} }

// P3: how many functions.
func TestNewFuncs(t *testing.T) {
	checkNew(t, []newCase{
		{"nil", nil, nil, api.ErrFuncs, 0},
		{"none", [][]api.Ins{}, nil, api.ErrFuncs, 0},
		{"1", empty(1), nil, api.OK, 0},
		{"8", empty(8), nil, api.OK, 0},
		{"9", empty(9), nil, api.ErrFuncs, 0},
		{"many", empty(1000), nil, api.ErrFuncs, 0},
	})
}

// P3: reducers.
func TestNewReduce(t *testing.T) {
	checkNew(t, []newCase{
		{"none", empty(1), []int{}, api.OK, 0},
		{"four", empty(1), []int{5, 4, 3, 2}, api.OK, 0},
		{"kind 1", empty(1), []int{1}, api.OK, 0},
		{"kind 0", empty(1), []int{0}, api.ErrReduce, 0},
		{"kind 6", empty(1), []int{1, 6}, api.ErrReduce, 1},
		{"kind -1", empty(1), []int{1, 2, 3, -1}, api.ErrReduce, 3},
		{"the first of two", empty(1), []int{1, 9, 9}, api.ErrReduce, 1},
		{"greatest and least", empty(1), []int{1, 1, math.MaxInt, math.MinInt}, api.ErrReduce, 2},
		{"five", empty(1), []int{1, 1, 1, 1, 1}, api.ErrReduce, 0},
		{"five, one of no kind", empty(1), []int{1, 1, 0, 1, 1}, api.ErrReduce, 0},
		{"five, the last of no kind", empty(1), []int{1, 1, 1, 1, 0}, api.ErrReduce, 0},
	})
}

// P3: how many instructions, and which function is told.
func TestNewFunctionTold(t *testing.T) {
	bad := []api.Ins{{Op: 9}}
	checkNew(t, []newCase{
		{"10", [][]api.Ins{times(10, sync())}, nil, api.OK, 0},
		{"11", [][]api.Ins{times(11, sync())}, nil, api.ErrIns, 0},
		{"11 in 2", [][]api.Ins{nil, nil, times(11, sync())}, nil, api.ErrIns, 2},
		{"11 ahead of a bad one", [][]api.Ins{nil, times(11, sync()), bad}, nil, api.ErrIns, 1},
		{"a bad one ahead of 11", [][]api.Ins{nil, bad, times(11, sync())}, nil, api.ErrIns, 1},
		{"in the last of 8", append(empty(7), bad), nil, api.ErrIns, 7},
		{"the last of 10", [][]api.Ins{nil, append(times(9, sync()), bad...)}, nil, api.ErrIns, 1},
		{"in one that is never begun", [][]api.Ins{nil, bad}, nil, api.ErrIns, 1},
	})
}

// P3: which instructions may be.
func TestNewIns(t *testing.T) {
	r := []int{api.Sum, api.List}
	least, most := int64(math.MinInt64), int64(math.MaxInt64)
	checkNew(t, []newCase{
		{"op 0", one(api.Ins{}), r, api.ErrIns, 0},
		{"op 6", one(api.Ins{Op: 6}), r, api.ErrIns, 0},
		{"op -1", one(api.Ins{Op: -1}), r, api.ErrIns, 0},
		{"op greatest", one(api.Ins{Op: math.MaxInt}), r, api.ErrIns, 0},
		{"Put", one(put(1, least, most)), r, api.OK, 0},
		{"Put of nothing", one(put(0, 0, 0)), r, api.OK, 0},
		{"Put R 2", one(put(2, 0, 0)), r, api.ErrIns, 0},
		{"Put R -1", one(put(-1, 0, 0)), r, api.ErrIns, 0},
		{"Put without reducers", one(put(0, 0, 0)), nil, api.ErrIns, 0},
		{"Put F", one(api.Ins{Op: api.Put, F: 1}), r, api.ErrIns, 0},
		{"Draw 1", one(draw(1, 1)), r, api.OK, 0},
		{"Draw greatest", one(draw(0, most)), r, api.OK, 0},
		{"Draw 0", one(draw(0, 0)), r, api.ErrIns, 0},
		{"Draw least", one(draw(0, least)), r, api.ErrIns, 0},
		{"Draw R 2", one(draw(2, 1)), r, api.ErrIns, 0},
		{"Draw R -1", one(draw(-1, 1)), r, api.ErrIns, 0},
		{"Draw F", one(api.Ins{Op: api.Draw, F: 1, K: 1}), r, api.ErrIns, 0},
		{"Draw L", one(api.Ins{Op: api.Draw, K: 1, L: -1}), r, api.ErrIns, 0},
		{"Sync", one(sync()), r, api.OK, 0},
		{"Sync F", one(api.Ins{Op: api.Sync, F: 1}), r, api.ErrIns, 0},
		{"Sync R", one(api.Ins{Op: api.Sync, R: 1}), r, api.ErrIns, 0},
		{"Sync K", one(api.Ins{Op: api.Sync, K: 1}), r, api.ErrIns, 0},
		{"Sync L", one(api.Ins{Op: api.Sync, L: 1}), r, api.ErrIns, 0},
	})
	for _, op := range []int{api.Spawn, api.Call} {
		checkNew(t, []newCase{
			{"begin 1", one(api.Ins{Op: op, F: 1, K: least, L: most}), r, api.OK, 0},
			{"begin without reducers", one(api.Ins{Op: op, F: 1}), nil, api.OK, 0},
			{"begin itself", one(api.Ins{Op: op}), r, api.ErrIns, 0},
			{"begin none", one(api.Ins{Op: op, F: 2}), r, api.ErrIns, 0},
			{"begin -1", one(api.Ins{Op: op, F: -1}), r, api.ErrIns, 0},
			{"begin greatest", one(api.Ins{Op: op, F: math.MaxInt}), r, api.ErrIns, 0},
			{"begin R", one(api.Ins{Op: op, F: 1, R: 1}), r, api.ErrIns, 0},
			{"begin a lesser one", [][]api.Ins{nil, nil, {{Op: op, F: 1}}}, r, api.ErrIns, 2},
			{"begin itself, 1", [][]api.Ins{nil, {{Op: op, F: 1}}, nil}, r, api.ErrIns, 1},
		})
	}
}

// withRoot: function 1 makes 30 frames, 2 makes 29, 3 makes 11 and 4 makes one.
func withRoot(root []api.Ins) [][]api.Ins {
	return [][]api.Ins{
		root,
		append(times(2, spawn(3, 0, 0)), times(7, call(4, 0, 0))...),
		append(times(2, call(3, 0, 0)), times(6, spawn(4, 0, 0))...),
		times(10, spawn(4, 0, 0)),
		nil,
	}
}

// P3: how many frames.
func TestNewFrames(t *testing.T) {
	ten := func(f int) []api.Ins { return times(10, spawn(f, 0, 0)) }
	checkNew(t, []newCase{
		{"300", withRoot(append(times(9, spawn(1, 0, 0)), spawn(2, 0, 0))), nil, api.OK, 0},
		{"301", withRoot(times(10, spawn(1, 0, 0))), nil, api.ErrFrames, 0},
		{"301 by calls", withRoot(times(10, call(1, 0, 0))), nil, api.ErrFrames, 0},
		{"the document's", [][]api.Ins{ten(1), ten(2), ten(3), nil}, nil, api.ErrFrames, 0},
		{"never begun", [][]api.Ins{nil, ten(2), ten(3), ten(4), nil}, nil, api.OK, 0},
		{"the most", [][]api.Ins{ten(1), ten(2), ten(3), ten(4), ten(5), ten(6), ten(7), nil}, nil, api.ErrFrames, 0},
	})
}

// P1: the error that is named first is told.
func TestNewFirstError(t *testing.T) {
	ten := func(f int) []api.Ins { return times(10, call(f, 0, 0)) }
	bad := []api.Ins{{Op: 9}}
	checkNew(t, []newCase{
		{"all", [][]api.Ins{bad, bad, bad, bad, bad, bad, bad, bad, bad}, []int{9}, api.ErrFuncs, 0},
		{"no function, no kind", nil, []int{1, 9}, api.ErrFuncs, 0},
		{"no kind, no instruction, frames", [][]api.Ins{ten(1), ten(2), ten(3), bad}, []int{1, 9}, api.ErrReduce, 1},
		{"five, no instruction", [][]api.Ins{nil, bad}, []int{1, 1, 1, 1, 1}, api.ErrReduce, 0},
		{"no instruction, frames", [][]api.Ins{ten(1), ten(2), ten(3), bad}, nil, api.ErrIns, 3},
	})
}

// P1: at all numbers; what is taken can be run.
func TestNewAnything(t *testing.T) {
	r := rand.New(rand.NewSource(1))
	n := func() int {
		few := []int{0, 1, 2, 3, 4, 5, 6, 7, 8, -1, math.MaxInt, math.MinInt}
		return few[r.Intn(len(few))]
	}
	taken := 0
	for range 20000 {
		funcs := make([][]api.Ins, r.Intn(4))
		for f := range funcs {
			for range r.Intn(3) {
				funcs[f] = append(funcs[f], api.Ins{Op: r.Intn(6), F: r.Intn(2) * n(), R: r.Intn(2) * n(), K: int64(n()), L: int64(r.Intn(2) * n())})
			}
		}
		p, e, _ := distaff.New(funcs, []int{api.Sum, api.List}[:r.Intn(3)])
		if (p == nil) != (e != api.OK) {
			t.Fatalf("New(%v): %v, %d", funcs, p, e)
		}
		if p != nil {
			taken++
			p.Serial(uint64(n()), int64(n()))
		}
	}
	if taken < 1000 {
		t.Errorf("only %d programs were taken", taken)
	}
}
