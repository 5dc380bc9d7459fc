package distaff_test

import (
	"math"
	"math/rand"
	"slices"
	"testing"

	"distaff/api"
	"distaff/distaff"
)

// checkList: a program of one List reducer.
func checkList(t *testing.T, name string, o api.Outcome, frames int, want ...int64) {
	t.Helper()
	var trace []api.Event
	for _, n := range want {
		trace = append(trace, api.Event{N: n})
	}
	w := api.Outcome{Values: []api.Value{{Is: len(want) > 0, L: want}}, Trace: trace, Stats: api.Stats{Frames: frames}}
	if !sameOutcome(o, w) {
		t.Errorf("%s: %+v, want %+v", name, o, w)
	}
}

// P4: example 1.
func TestSerialExample(t *testing.T) {
	p := program(t, []int{api.List}, []api.Ins{spawn(1, 1, 0), put(0, 2, 0), sync(), put(0, 3, 0)}, []api.Ins{put(0, 0, 1)})
	checkList(t, "example 1", p.Serial(0, 0), 2, 1, 2, 3)
}

// P4: the serial order, and arguments.
func TestSerialOrder(t *testing.T) {
	p := program(t, []int{api.List},
		[]api.Ins{put(0, 0, 1), spawn(1, 10, 2), call(1, 0, -1), put(0, 5, 0)},
		[]api.Ins{put(0, 0, 1), spawn(2, 1, 1), call(2, 2, 1)},
		[]api.Ins{put(0, 100, 1)})
	checkList(t, "spawns and calls", p.Serial(0, 3), 7, 3, 16, 117, 118, -3, 98, 99, 5)
	checkList(t, "nothing to do", program(t, []int{api.List}, nil).Serial(0, 3), 1)
	checkList(t, "only Syncs", program(t, []int{api.List}, times(10, sync())).Serial(0, 3), 1)
}

// P4: sums and products are cut.
func TestSerialCut(t *testing.T) {
	p := program(t, []int{api.List}, []api.Ins{put(0, 1, 1), put(0, 0, 2), put(0, math.MinInt64, math.MinInt64), call(1, 2, 4)}, []api.Ins{put(0, 0, 1)})
	checkList(t, "greatest", p.Serial(0, math.MaxInt64), 2, math.MinInt64, -2, 0, -2)
	checkList(t, "least", p.Serial(0, math.MinInt64), 2, math.MinInt64+1, 0, math.MinInt64, 2)
}

// P4: without reducers there is nothing but frames.
func TestSerialWithoutReducers(t *testing.T) {
	o := program(t, nil, []api.Ins{spawn(1, 0, 0), sync(), call(1, 0, 0)}, nil).Serial(1, 1)
	if len(o.Values) != 0 || len(o.Trace) != 0 || o.Stats != (api.Stats{Frames: 3}) {
		t.Errorf("%+v", o)
	}
}

// P4: each kind, of some numbers and of nothing.
func TestSerialReducers(t *testing.T) {
	for _, c := range []struct {
		kind  int
		given []int64
		want  api.Value
	}{
		{api.Sum, []int64{3, -9, 4}, api.Value{Is: true, N: -2}},
		{api.Sum, []int64{3, -3}, api.Value{Is: true}},
		{api.Sum, []int64{math.MinInt64, -1}, api.Value{Is: true, N: math.MaxInt64}},
		{api.Most, []int64{-7, -3, -5}, api.Value{Is: true, N: -3}},
		{api.Most, []int64{math.MinInt64}, api.Value{Is: true, N: math.MinInt64}},
		{api.Least, []int64{7, 3, 5}, api.Value{Is: true, N: 3}},
		{api.Least, []int64{math.MaxInt64}, api.Value{Is: true, N: math.MaxInt64}},
		{api.List, []int64{4, 0, 4}, api.Value{Is: true, L: []int64{4, 0, 4}}},
		{api.Last, []int64{9, 4}, api.Value{Is: true, N: 4}},
		{api.Last, []int64{9, 0}, api.Value{Is: true}},
		{api.Sum, nil, api.Value{}},
		{api.Most, nil, api.Value{}},
		{api.Least, nil, api.Value{}},
		{api.List, nil, api.Value{}},
		{api.Last, nil, api.Value{}},
	} {
		var body []api.Ins
		for _, n := range c.given {
			body = append(body, put(1, n, 0))
		}
		o := program(t, []int{api.List, c.kind}, body).Serial(0, 0)
		if !sameValues(o.Values, []api.Value{{}, c.want}) {
			t.Errorf("kind %d of %v: %+v, want %+v", c.kind, c.given, o.Values, c.want)
		}
	}
}

// P4: the Trace tells the reducers, and all of them gather their own.
func TestSerialSeveralReducers(t *testing.T) {
	o := program(t, []int{api.List, api.Sum, api.Last}, []api.Ins{put(2, 1, 0), put(0, 2, 0), put(1, 3, 0), put(0, 4, 0), put(2, 5, 0)}).Serial(0, 0)
	want := api.Outcome{
		Values: []api.Value{{Is: true, L: []int64{2, 4}}, {Is: true, N: 3}, {Is: true, N: 5}},
		Trace:  []api.Event{{R: 2, N: 1}, {R: 0, N: 2}, {R: 1, N: 3}, {R: 0, N: 4}, {R: 2, N: 5}},
		Stats:  api.Stats{Frames: 1},
	}
	if !sameOutcome(o, want) {
		t.Errorf("%+v, want %+v", o, want)
	}
}

// P4: example 4, and the pedigrees behind each instruction.
func TestSerialDraws(t *testing.T) {
	const k = math.MaxInt64
	d := draw(0, k)
	for _, c := range []struct {
		name      string
		body      []api.Ins
		pedigrees [][]int64
	}{
		{"two", []api.Ins{d, d}, [][]int64{{0}, {1}}},
		{"behind a Call", []api.Ins{d, call(2, 0, 0), d}, [][]int64{{0}, {2}}},
		{"behind a Spawn", []api.Ins{d, spawn(2, 0, 0), d}, [][]int64{{0}, {2}}},
		{"behind a Sync", []api.Ins{d, sync(), d}, [][]int64{{0}, {2}}},
		{"behind a Put", []api.Ins{put(1, 7, 7), d}, [][]int64{{0}}},
		{"in a frame", []api.Ins{sync(), spawn(1, 0, 0), d, call(1, 0, 0)}, [][]int64{{1, 0}, {1, 2}, {2}, {3, 0}, {3, 2}}},
	} {
		p := program(t, []int{api.List, api.Sum}, c.body, []api.Ins{d, call(2, 0, 0), d}, nil)
		for _, seed := range []uint64{0, 1, 1 << 63, math.MaxUint64} {
			var want []int64
			for _, pedigree := range c.pedigrees {
				want = append(want, drawn(seed, pedigree, k))
			}
			if got := p.Serial(seed, 5).Values[0].L; !slices.Equal(got, want) {
				t.Errorf("%s, seed %d: %v, want %v", c.name, seed, got, want)
			}
		}
	}
	checkList(t, "below 1", program(t, []int{api.List}, []api.Ins{draw(0, 1), draw(0, 1)}).Serial(9, 9), 1, 0, 0)
	checkList(t, "below 100", program(t, []int{api.List}, []api.Ins{draw(0, 100), draw(0, 100)}).Serial(0, 0), 1, 76, 68)
}

// P4: against a model that follows the document word by word.
func TestSerialModel(t *testing.T) {
	r := rand.New(rand.NewSource(4))
	several := 0
	for range 3000 {
		funcs, reducers := randomProgram(r)
		p, e, _ := distaff.New(funcs, reducers)
		if e == api.ErrFrames {
			continue
		}
		if e != api.OK {
			t.Fatalf("New(%v, %v): %d", funcs, reducers, e)
		}
		seed, argument := r.Uint64(), int64(r.Uint64())
		got, want := p.Serial(seed, argument), modelSerial(funcs, reducers, seed, argument)
		if !sameOutcome(got, want) {
			t.Fatalf("%v, %v, %d, %d: %+v, want %+v", funcs, reducers, seed, argument, got, want)
		}
		if want.Stats.Frames > 1 {
			several++
		}
	}
	if several < 300 {
		t.Errorf("only %d programs had several frames", several)
	}
}
