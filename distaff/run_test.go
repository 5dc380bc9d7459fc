package distaff_test

import (
	"math"
	"math/rand"
	"slices"
	"testing"

	"distaff/api"
	"distaff/distaff"
)

func by(worker int) api.Pick { return api.Pick{Worker: worker} }

func from(worker, victim int) api.Pick { return api.Pick{Worker: worker, Victim: victim} }

// again: the same worker does so many steps.
func again(n, worker int) []api.Pick { return slices.Repeat([]api.Pick{by(worker)}, n) }

func script(parts ...[]api.Pick) []api.Pick { return slices.Concat(parts...) }

func run(t *testing.T, p *distaff.Program, workers int, script []api.Pick) api.Outcome {
	t.Helper()
	o, e := p.Run(7, 0, workers, script)
	if e != api.OK {
		t.Fatalf("Run: %d", e)
	}
	return o
}

// given: what one reducer was given, each number by whom.
func given(pairs ...[2]int) []api.Event {
	var out []api.Event
	for _, p := range pairs {
		out = append(out, api.Event{Worker: p[0], N: int64(p[1])})
	}
	return out
}

func checkOutcome(t *testing.T, name string, got, want api.Outcome) {
	t.Helper()
	if !sameOutcome(got, want) {
		t.Errorf("%s: %+v, want %+v", name, got, want)
	}
}

// checkRun: a run of a program of one List reducer.
func checkRun(t *testing.T, name string, o api.Outcome, stats api.Stats, trace []api.Event, want ...int64) {
	t.Helper()
	checkOutcome(t, name, o, api.Outcome{Values: []api.Value{{Is: len(want) > 0, L: want}}, Trace: trace, Stats: stats})
}

func example1(t *testing.T) *distaff.Program {
	return program(t, []int{api.List}, []api.Ins{spawn(1, 1, 0), put(0, 2, 0), sync(), put(0, 3, 0)}, []api.Ins{put(0, 0, 1)})
}

// P5: the examples 1 and 2.
func TestRunExamples(t *testing.T) {
	p := example1(t)
	checkRun(t, "example 1", run(t, p, 1, nil), api.Stats{Steps: 7, Frames: 2}, given([2]int{0, 1}, [2]int{0, 2}, [2]int{0, 3}), 1, 2, 3)
	picks := []api.Pick{by(0), from(1, 0), by(1), by(1), by(0), by(0), from(1, 0), from(1, 0)}
	checkRun(t, "example 2", run(t, p, 2, picks), api.Stats{Steps: 13, Steals: 1, Fails: 4, Frames: 2}, given([2]int{1, 2}, [2]int{0, 1}, [2]int{0, 3}), 1, 2, 3)
}

// P5 and P1: what may not be, and which error is named first; beside it there is nothing.
func TestRunErrors(t *testing.T) {
	p := example1(t)
	for _, c := range []struct {
		workers, picks int
		want           api.Errno
	}{
		{0, 0, api.ErrWorkers}, {9, 0, api.ErrWorkers}, {-1, 0, api.ErrWorkers},
		{math.MinInt, 0, api.ErrWorkers}, {math.MaxInt, 0, api.ErrWorkers},
		{0, 4001, api.ErrWorkers}, {9, 4001, api.ErrWorkers},
		{1, 4001, api.ErrScript}, {8, 4001, api.ErrScript}, {3, 100000, api.ErrScript},
		{1, 0, api.OK}, {8, 0, api.OK}, {1, 4000, api.OK}, {8, 4000, api.OK},
	} {
		o, e := p.Run(1, 1, c.workers, make([]api.Pick, c.picks))
		if e != c.want {
			t.Errorf("%d workers, %d picks: %d, want %d", c.workers, c.picks, e, c.want)
		}
		if e != api.OK && (len(o.Values) != 0 || len(o.Trace) != 0 || o.Stats != api.Stats{}) {
			t.Errorf("%d workers, %d picks: %+v beside an error", c.workers, c.picks, o)
		}
	}
}

// P5: the least programs, and those without reducers.
func TestRunLeast(t *testing.T) {
	checkRun(t, "nothing to do", run(t, program(t, []int{api.List}, nil), 1, nil), api.Stats{Steps: 1, Frames: 1}, nil)
	checkRun(t, "only Syncs", run(t, program(t, []int{api.List}, times(10, sync())), 1, nil), api.Stats{Steps: 11, Frames: 1}, nil)
	checkRun(t, "a round that is broken off", run(t, program(t, []int{api.List}, times(1, put(0, 5, 1))), 8, nil), api.Stats{Steps: 9, Fails: 7, Frames: 1}, given([2]int{0, 5}), 5)
	o := run(t, program(t, nil, []api.Ins{spawn(1, 0, 0), call(1, 0, 0)}, nil), 1, nil)
	checkOutcome(t, "without reducers", o, api.Outcome{Stats: api.Stats{Steps: 5, Frames: 3}})
}

// P5: picks that are left when all is done are no steps.
func TestRunPicksLeft(t *testing.T) {
	p := example1(t)
	trace := given([2]int{0, 1}, [2]int{0, 2}, [2]int{0, 3})
	for _, n := range []int{6, 7, 8, 4000} {
		checkRun(t, "one alone", run(t, p, 1, again(n, 0)), api.Stats{Steps: 7, Frames: 2}, trace, 1, 2, 3)
	}
	checkRun(t, "all by the first of two", run(t, p, 2, again(4000, 0)), api.Stats{Steps: 7, Frames: 2}, trace, 1, 2, 3)
	checkRun(t, "the second has nothing", run(t, p, 2, again(4000, 1)), api.Stats{Steps: 4010, Steals: 1, Fails: 4002, Frames: 2}, given([2]int{0, 1}, [2]int{1, 2}, [2]int{1, 3}), 1, 2, 3)
}

// P5: a pick's numbers are taken by their rest.
func TestRunPickNumbers(t *testing.T) {
	p := program(t, []int{api.List}, []api.Ins{spawn(1, 1, 0), spawn(1, 2, 0), put(0, 3, 0)}, []api.Ins{put(0, 0, 1)})
	for _, c := range []struct{ n, workers, rest int }{
		{0, 3, 0}, {1, 3, 1}, {2, 3, 2}, {3, 3, 0}, {4, 3, 1}, {5, 3, 2}, {8, 7, 1}, {15, 8, 7},
		{-1, 3, 0}, {-2, 3, 1}, {-3, 3, 2}, {-4, 3, 0}, {-5, 3, 1}, {-8, 8, 7}, {-9, 8, 0},
		{math.MaxInt, 8, 7}, {math.MinInt, 8, 7}, {math.MaxInt - 1, 8, 6}, {math.MinInt + 1, 8, 6},
	} {
		if o := run(t, p, c.workers, []api.Pick{by(0), by(c.n), by(c.n), by(c.n)}); o.Trace[0].Worker != c.rest {
			t.Errorf("worker %d of %d: %+v", c.n, c.workers, o)
		}
		// the worker rest has the root on its stack, and the next one steals it by that number
		thief := (c.rest + 1) % c.workers
		steal := func(n int) []api.Pick {
			if c.rest == 0 {
				return []api.Pick{by(0), from(thief, n)}
			}
			return []api.Pick{by(0), from(c.rest, 0), by(c.rest), by(0), by(0), from(thief, n)}
		}
		want, _ := modelRun([][]api.Ins{{spawn(1, 1, 0), spawn(1, 2, 0), put(0, 3, 0)}, {put(0, 0, 1)}}, []int{api.List}, 7, 0, c.workers, steal(c.rest))
		checkOutcome(t, "victim", run(t, p, c.workers, steal(c.n)), want)
	}
}

// P5: behind the script each worker goes on in turn, and in each round with another victim.
func TestRunRounds(t *testing.T) {
	p := program(t, []int{api.List}, []api.Ins{spawn(1, 1, 0), put(0, 2, 0)}, []api.Ins{put(0, 0, 1)})
	// 2 steals from 0 in the round 0; 1 finds nothing with 2, 0 and itself.
	checkRun(t, "three", run(t, p, 3, nil), api.Stats{Steps: 9, Steals: 1, Fails: 3, Frames: 2}, given([2]int{0, 1}, [2]int{2, 2}), 1, 2)
	// 1 steals from 0 in the round 0.
	checkRun(t, "two", run(t, p, 2, nil), api.Stats{Steps: 6, Steals: 1, Frames: 2}, given([2]int{0, 1}, [2]int{1, 2}), 1, 2)
	// Of four, 3 is the one whose first victim is 0; if it has nothing to steal yet, 2 is the next one, in the round 1.
	late := program(t, []int{api.List}, []api.Ins{call(1, 0, 0)}, []api.Ins{spawn(2, 1, 0), put(0, 2, 0)}, times(3, put(0, 0, 1)))
	checkRun(t, "four", run(t, late, 4, nil), api.Stats{Steps: 29, Steals: 1, Fails: 18, Frames: 3}, given([2]int{0, 1}, [2]int{2, 2}, [2]int{0, 1}, [2]int{0, 1}), 1, 1, 1, 2)
}

// P5: what was put on the stack first is stolen first, what was put there last goes on first.
func TestRunOrderOfStack(t *testing.T) {
	p := program(t, []int{api.List},
		[]api.Ins{spawn(1, 0, 0), put(0, 9, 0)},
		[]api.Ins{spawn(2, 0, 0), put(0, 8, 0)},
		[]api.Ins{spawn(3, 0, 0), put(0, 7, 0)},
		nil)
	// 0 has the frames 0, 1 and 2 on its stack; 1 steals the first one, 2 the second; 0 goes on with the third.
	picks := script(again(3, 0), []api.Pick{from(1, 0), by(1), from(2, 0), by(2), by(0), by(0)})
	o := run(t, p, 3, picks)
	if want := given([2]int{1, 9}, [2]int{2, 8}, [2]int{0, 7}); !slices.Equal(o.Trace, want) || o.Stats.Steals != 2 {
		t.Errorf("%+v, want %v", o, want)
	}
	// 0 ends the frame 3, then goes on with the frame 2, which was put there last.
	o = run(t, p, 2, script(again(5, 0), []api.Pick{from(1, 0), by(1)}, again(3, 0)))
	if want := given([2]int{0, 7}, [2]int{1, 9}, [2]int{0, 8}); !slices.Equal(o.Trace, want) || o.Stats.Steals != 1 {
		t.Errorf("%+v, want %v", o, want)
	}
}

// P5: nobody steals from himself, nor from one that has nothing; a frame at hand, or one that waits, is not stolen.
func TestRunFails(t *testing.T) {
	p := program(t, []int{api.List}, []api.Ins{call(1, 1, 0), put(0, 2, 0)}, []api.Ins{put(0, 0, 1)})
	picks := []api.Pick{from(1, 1), from(1, 0), by(0), from(1, 0), from(2, 1), by(0), by(0), from(2, 0), by(0), by(0)}
	checkRun(t, "a Call", run(t, p, 3, picks), api.Stats{Steps: 10, Fails: 5, Frames: 2}, given([2]int{0, 1}, [2]int{0, 2}), 1, 2)
}

// P5: a frame that was stolen is set aside at a Sync and at its end as long as one is out, and goes on with the one who ends the last.
func TestRunSetAside(t *testing.T) {
	two := []api.Ins{put(0, 0, 10), put(0, 1, 10)}
	end := program(t, []int{api.List}, []api.Ins{spawn(1, 1, 0), spawn(1, 2, 0), put(0, 3, 0)}, two)
	atSync := program(t, []int{api.List}, []api.Ins{spawn(1, 1, 0), spawn(1, 2, 0), put(0, 3, 0), sync(), put(0, 4, 0)}, two)
	// 1 and 2 steal the root; 2 comes to its Sync or end with two out.
	begin := []api.Pick{by(0), from(1, 0), by(1), from(2, 1), by(2), by(2)}
	trace := given([2]int{2, 3}, [2]int{1, 20}, [2]int{1, 21}, [2]int{0, 10}, [2]int{0, 11})
	last0 := script(begin, again(3, 1), again(3, 0))
	checkRun(t, "the end, 0 is last", run(t, end, 3, script(last0, again(1, 0))), api.Stats{Steps: 13, Steals: 2, Frames: 3}, trace, 10, 11, 20, 21, 3)
	checkRun(t, "a Sync, 0 is last", run(t, atSync, 3, script(last0, again(3, 0))), api.Stats{Steps: 15, Steals: 2, Frames: 3}, append(trace, api.Event{N: 4}), 10, 11, 20, 21, 3, 4)
	trace = given([2]int{2, 3}, [2]int{0, 10}, [2]int{0, 11}, [2]int{1, 20}, [2]int{1, 21}, [2]int{1, 4})
	last1 := script(begin, again(3, 0), again(3, 1), again(3, 1))
	checkRun(t, "a Sync, 1 is last", run(t, atSync, 3, last1), api.Stats{Steps: 15, Steals: 2, Frames: 3}, trace, 10, 11, 20, 21, 3, 4)
	// 0 has nothing at hand when it is not the last one, and 2 when the root is set aside.
	fails := script(begin, again(1, 2), again(3, 0), again(2, 0), again(6, 1))
	checkRun(t, "fails between", run(t, atSync, 3, fails), api.Stats{Steps: 18, Steals: 2, Fails: 3, Frames: 3}, trace, 10, 11, 20, 21, 3, 4)
}

// P5: a frame that is not set aside stays with the one that has it, though its last one ends elsewhere: also if it was set aside before.
func TestRunNotSetAside(t *testing.T) {
	p := program(t, []int{api.List}, []api.Ins{spawn(1, 1, 0), put(0, 2, 0), put(0, 3, 0)}, []api.Ins{put(0, 0, 1)})
	picks := []api.Pick{by(0), from(1, 0), by(1), by(0), by(0), by(0), by(1), by(1)}
	checkRun(t, "never", run(t, p, 2, picks), api.Stats{Steps: 8, Steals: 1, Fails: 1, Frames: 2}, given([2]int{1, 2}, [2]int{0, 1}, [2]int{1, 3}), 1, 2, 3)

	p = program(t, []int{api.List}, []api.Ins{spawn(1, 1, 0), sync(), spawn(1, 2, 0), put(0, 3, 0), put(0, 4, 0)}, []api.Ins{put(0, 0, 1)})
	// 1 steals the root and sets it aside; 0 has it again, does the Sync and the second Spawn; 1 steals it once more and puts, while 0 ends the frame.
	picks = []api.Pick{by(0), from(1, 0), by(1), by(0), by(0), by(0), by(0), from(1, 0), by(1), by(0), by(0), by(0), by(1), by(1)}
	checkRun(t, "before", run(t, p, 2, picks), api.Stats{Steps: 14, Steals: 2, Fails: 1, Frames: 3}, given([2]int{0, 1}, [2]int{1, 3}, [2]int{0, 2}, [2]int{1, 4}), 1, 2, 3, 4)
}

// P5: one that waits by a Call goes on with whoever ends the frame that was called.
func TestRunCallMoves(t *testing.T) {
	p := program(t, []int{api.List},
		[]api.Ins{call(1, 0, 0), put(0, 3, 0)},
		[]api.Ins{spawn(2, 1, 0), put(0, 2, 0)},
		[]api.Ins{put(0, 0, 1)})
	// 0 calls and spawns; 1 steals the frame that was called, and ends it behind 0's.
	picks := []api.Pick{by(0), by(0), from(1, 0), by(0), by(0), by(1), by(1), by(1), by(0), by(1)}
	checkRun(t, "a Call", run(t, p, 2, picks), api.Stats{Steps: 10, Steals: 1, Fails: 1, Frames: 3}, given([2]int{0, 1}, [2]int{1, 2}, [2]int{1, 3}), 1, 2, 3)
}

// P5: what is drawn does not hang on who draws it, nor when.
func TestRunDraws(t *testing.T) {
	const k = math.MaxInt64
	p := program(t, []int{api.List}, []api.Ins{draw(0, k), spawn(1, 0, 0), draw(0, k), sync(), draw(0, k)}, []api.Ins{draw(0, k), draw(0, k)})
	a, b, c, d, e := drawn(7, []int64{0}, k), drawn(7, []int64{1, 0}, k), drawn(7, []int64{1, 1}, k), drawn(7, []int64{2}, k), drawn(7, []int64{4}, k)
	o := run(t, p, 2, []api.Pick{by(0), by(0), from(1, 0), by(1), by(1), by(0), by(0), by(0), by(0), by(0), by(0)})
	trace := []api.Event{{N: a}, {Worker: 1, N: d}, {N: b}, {N: c}, {N: e}}
	checkRun(t, "draws", o, api.Stats{Steps: 11, Steals: 1, Frames: 2}, trace, a, b, c, d, e)
}

// P5: each kind of reducer gathers in the serial order, though the steps come in another one.
func TestRunReducers(t *testing.T) {
	for _, c := range []struct {
		kind int
		want api.Value
	}{
		{api.Sum, api.Value{Is: true, N: 6}},
		{api.Most, api.Value{Is: true, N: 9}},
		{api.Least, api.Value{Is: true, N: -5}},
		{api.List, api.Value{Is: true, L: []int64{2, 9, -5}}},
		{api.Last, api.Value{Is: true, N: -5}},
	} {
		p := program(t, []int{api.Sum, c.kind}, []api.Ins{spawn(1, 0, 0), put(1, -5, 0)}, []api.Ins{put(1, 2, 0), put(1, 9, 0)})
		o := run(t, p, 2, []api.Pick{by(0), from(1, 0), by(1)})
		want := []api.Event{{Worker: 1, R: 1, N: -5}, {R: 1, N: 2}, {R: 1, N: 9}}
		if !sameValues(o.Values, []api.Value{{}, c.want}) || !slices.Equal(o.Trace, want) {
			t.Errorf("kind %d: %+v", c.kind, o)
		}
	}
}

// P5 and P1: as many frames as may be, by all numbers of workers.
func TestRunGreatest(t *testing.T) {
	wide := [][]api.Ins{
		append(times(9, spawn(1, 1, 1)), call(3, 1, 1)),
		append(times(3, spawn(2, 1, 1)), call(4, 1, 1), call(4, 2, 1), draw(0, 9)),
		append(times(9, spawn(4, 1, 1)), put(0, 1, 1)),
		{spawn(4, 1, 1), sync(), draw(0, 9)},
		times(10, put(0, 1, 1)),
	}
	deep := [][]api.Ins{}
	for f := range 7 {
		deep = append(deep, []api.Ins{spawn(f+1, 1, 1), sync(), call(f+1, 1, 1), put(0, 1, 1)})
	}
	deep = append(deep, []api.Ins{put(0, 1, 1)})
	for name, funcs := range map[string][][]api.Ins{"wide": wide, "deep": deep} {
		p := program(t, []int{api.List}, funcs...)
		for workers := 1; workers <= 8; workers++ {
			want, _ := modelRun(funcs, []int{api.List}, 7, 0, workers, nil)
			checkOutcome(t, name, run(t, p, workers, nil), want)
			if name == "wide" && want.Stats.Frames != api.MaxFrames {
				t.Errorf("%d frames", want.Stats.Frames)
			}
		}
	}
}

// branching: a program that has many frames, most of them spawned by one that was spawned itself; not too many frames, mostly.
func branching(r *rand.Rand) ([][]api.Ins, []int) {
	funcs := make([][]api.Ins, 3+r.Intn(6))
	for f := range funcs {
		for range 1 + r.Intn(5) {
			ins := randomIns(r, f, len(funcs), 3)
			if f+1 < len(funcs) && r.Intn(4) == 0 {
				ins = spawn(f+1, int64(r.Intn(9)), int64(r.Intn(9)))
			}
			funcs[f] = append(funcs[f], ins)
		}
	}
	return funcs, []int{api.List, 1 + r.Intn(5), api.Last}
}

func randomScript(r *rand.Rand) []api.Pick {
	picks := make([]api.Pick, r.Intn(400))
	for i := range picks {
		picks[i] = from(r.Intn(8), r.Intn(8))
		if r.Intn(20) == 0 {
			picks[i] = from(int(r.Uint64()), int(r.Uint64()))
		}
	}
	return picks
}

// P5: against a model that follows the document word by word; the Values are Serial's, and one alone goes in the serial order.
func TestRunModel(t *testing.T) {
	r := rand.New(rand.NewSource(5))
	steals, asides := 0, 0
	for i := range 2000 {
		funcs, reducers := randomProgram(r)
		if i%2 == 0 {
			funcs, reducers = branching(r)
		}
		p, e, _ := distaff.New(funcs, reducers)
		if e == api.ErrFrames {
			continue
		}
		seed, argument := r.Uint64(), int64(r.Uint64())
		serial := p.Serial(seed, argument)
		for range 4 {
			workers, picks := 1+r.Intn(8), randomScript(r)
			got, e := p.Run(seed, argument, workers, picks)
			want, aside := modelRun(funcs, reducers, seed, argument, workers, picks)
			if e != api.OK || !sameOutcome(got, want) || !sameValues(got.Values, serial.Values) {
				t.Fatalf("%v, %v, %d, %d, %d workers, %v: %+v, %d, want %+v", funcs, reducers, seed, argument, workers, picks, got, e, want)
			}
			if workers == 1 && (!slices.Equal(got.Trace, serial.Trace) || got.Stats.Steals != 0 || got.Stats.Fails != 0) {
				t.Fatalf("%v by one: %+v, without workers %+v", funcs, got, serial)
			}
			steals, asides = steals+want.Stats.Steals, asides+aside
		}
	}
	if steals < 20000 || asides < 5000 {
		t.Errorf("only %d steals, and %d set aside", steals, asides)
	}
}
