package distaff_test

import (
	"math"
	"math/rand"
	"slices"
	"testing"

	"distaff/api"
	"distaff/distaff"
)

func sweep(t *testing.T, p *distaff.Program, workers int, scripts [][]api.Pick) []api.Outcome {
	t.Helper()
	out, e := p.Sweep(7, 1, workers, scripts)
	if e != api.OK || len(out) != len(scripts) {
		t.Fatalf("Sweep of %d scripts: %d outcomes, %d", len(scripts), len(out), e)
	}
	return out
}

// long: so many scripts, of which the one at that place has so many picks.
func long(scripts, at, picks int) [][]api.Pick {
	out := make([][]api.Pick, scripts)
	out[at] = make([]api.Pick, picks)
	return out
}

// P6 and P1: what may not be, and which error is named first; beside it there is nothing.
func TestSweepErrors(t *testing.T) {
	p := example1(t)
	full := slices.Repeat([][]api.Pick{make([]api.Pick, 4000)}, 20)
	for _, c := range []struct {
		name    string
		workers int
		scripts [][]api.Pick
		want    api.Errno
	}{
		{"no worker", 0, full, api.ErrWorkers},
		{"no worker, no script", 0, nil, api.ErrWorkers},
		{"nine, no script", 9, [][]api.Pick{}, api.ErrWorkers},
		{"fewer than none", -1, full, api.ErrWorkers},
		{"the least", math.MinInt, full, api.ErrWorkers},
		{"the most", math.MaxInt, full, api.ErrWorkers},
		{"nine, too many scripts", 9, make([][]api.Pick, 21), api.ErrWorkers},
		{"none, too many picks", 0, long(1, 0, 4001), api.ErrWorkers},
		{"too many scripts", 1, make([][]api.Pick, 21), api.ErrScript},
		{"far too many scripts", 8, make([][]api.Pick, 100000), api.ErrScript},
		{"too many scripts and picks", 3, long(21, 20, 4001), api.ErrScript},
		{"too many picks, alone", 1, long(1, 0, 4001), api.ErrScript},
		{"too many picks, first", 8, long(20, 0, 4001), api.ErrScript},
		{"too many picks, between", 8, long(20, 9, 4001), api.ErrScript},
		{"too many picks, last", 8, long(20, 19, 100000), api.ErrScript},
		{"as many as may be, by one", 1, full, api.OK},
		{"as many as may be, by eight", 8, full, api.OK},
		{"empty ones", 8, make([][]api.Pick, 20), api.OK},
		{"no script", 1, nil, api.OK},
		{"no script, by eight", 8, [][]api.Pick{}, api.OK},
	} {
		out, e := p.Sweep(1, 1, c.workers, c.scripts)
		if e != c.want {
			t.Errorf("%s: %d, want %d", c.name, e, c.want)
		}
		if e == api.OK && len(out) != len(c.scripts) || e != api.OK && len(out) != 0 {
			t.Errorf("%s: %d outcomes, %d", c.name, len(out), e)
		}
	}
}

// P6: the examples 1 and 2, beside each other and told more than once.
func TestSweepExamples(t *testing.T) {
	p := example1(t)
	stolen := []api.Pick{by(0), from(1, 0), by(1), by(1), by(0), by(0), from(1, 0), from(1, 0)}
	alone := again(7, 0)
	out := sweep(t, p, 2, [][]api.Pick{stolen, alone, stolen, alone, alone})
	for i, o := range out {
		if i == 0 || i == 2 {
			checkRun(t, "example 2", o, api.Stats{Steps: 13, Steals: 1, Fails: 4, Frames: 2}, given([2]int{1, 2}, [2]int{0, 1}, [2]int{0, 3}), 1, 2, 3)
			continue
		}
		checkRun(t, "example 1", o, api.Stats{Steps: 7, Frames: 2}, given([2]int{0, 1}, [2]int{0, 2}, [2]int{0, 3}), 1, 2, 3)
	}
}

// P6: the outcomes come in the order of the scripts, though the first ones take the longest.
func TestSweepOrder(t *testing.T) {
	p := example1(t)
	scripts := make([][]api.Pick, api.MaxScripts)
	for i := range scripts {
		scripts[i] = again(api.MaxPicks-200*i, 1)
	}
	for range 20 {
		for i, o := range sweep(t, p, 2, scripts) {
			// 1 finds nothing by each pick; what comes behind is the same in each run
			if want := api.MaxPicks - 200*i + 10; o.Stats.Steps != want {
				t.Fatalf("script %d: %d steps, want %d", i, o.Stats.Steps, want)
			}
		}
	}
}

// P6: each outcome is what the model tells of the script, and what Run answers of it.
func TestSweepModel(t *testing.T) {
	r := rand.New(rand.NewSource(6))
	steals := 0
	for i := range 200 {
		funcs, reducers := randomProgram(r)
		if i%4 != 0 {
			funcs, reducers = branching(r)
		}
		p, e, _ := distaff.New(funcs, reducers)
		if e == api.ErrFrames {
			continue
		}
		scripts := make([][]api.Pick, r.Intn(api.MaxScripts+1))
		for k := range scripts {
			scripts[k] = randomScript(r)
		}
		seed, argument, workers := r.Uint64(), int64(r.Uint64()), 1+r.Intn(8)
		out, e := p.Sweep(seed, argument, workers, scripts)
		if e != api.OK || len(out) != len(scripts) {
			t.Fatalf("%d scripts: %d outcomes, %d", len(scripts), len(out), e)
		}
		for k, script := range scripts {
			want, _ := modelRun(funcs, reducers, seed, argument, workers, script)
			single, _ := p.Run(seed, argument, workers, script)
			if !sameOutcome(out[k], want) || !sameOutcome(out[k], single) {
				t.Fatalf("%v, %v, %d, %d, %d workers, %v: %+v, by Run %+v, want %+v", funcs, reducers, seed, argument, workers, script, out[k], single, want)
			}
			steals += want.Stats.Steals
		}
	}
	if steals < 5000 {
		t.Errorf("only %d steals", steals)
	}
}

// roomyScripts: a list of scripts of which some are told twice, or share a part; it and they have spare room.
func roomyScripts() [][]api.Pick {
	picks := append(stealing(), from(77, 77), from(-77, -77))
	all := [][]api.Pick{picks[:len(stealing())], nil, picks[:3], picks[2:6], picks[:len(stealing())], {}, picks, picks[:1]}
	return all[:6]
}

// wholeScripts: with all that is in the spare room.
func wholeScripts(scripts [][]api.Pick) [][]api.Pick {
	var out [][]api.Pick
	for _, s := range scripts[:cap(scripts)] {
		out = append(out, slices.Clone(s[:cap(s)]))
	}
	return out
}

// P2: neither the list of the scripts nor one of them is written into, nor the spare room.
func TestScriptsAreLeft(t *testing.T) {
	funcs, reducers := gatherers()
	p, scripts := program(t, reducers, funcs...), roomyScripts()
	lengths := func() (out []int) {
		for _, s := range scripts[:cap(scripts)] {
			out = append(out, len(s))
		}
		return out
	}
	was, wasLong := wholeScripts(scripts), lengths()
	for workers := 1; workers <= 8; workers++ {
		sweep(t, p, workers, scripts)
		if !slices.EqualFunc(wholeScripts(scripts), was, slices.Equal) || !slices.Equal(lengths(), wasLong) {
			t.Fatalf("%v, was %v", wholeScripts(scripts), was)
		}
	}
}

// P2: no script is kept: what is written into them later changes nothing.
func TestScriptsAreNotKept(t *testing.T) {
	funcs, reducers := gatherers()
	p, scripts := program(t, reducers, funcs...), roomyScripts()
	first := sweep(t, p, 3, scripts)
	for i, s := range scripts {
		for k := range s {
			s[k] = by(2)
		}
		scripts[i] = nil
	}
	second := sweep(t, p, 3, roomyScripts())
	for i, s := range roomyScripts() {
		want, _ := modelRun(funcs, reducers, 7, 1, 3, s)
		checkOutcome(t, "the first", first[i], want)
		checkOutcome(t, "the second", second[i], want)
	}
}

// P2: no two outcomes of a sweep share memory, nor do those of two sweeps of the same scripts.
func TestOutcomesAreApart(t *testing.T) {
	funcs, reducers := gatherers()
	p, scripts := program(t, reducers, funcs...), roomyScripts()
	for over := range scripts {
		out, other := sweep(t, p, 3, scripts), sweep(t, p, 3, scripts)
		scribble(out[over])
		out[over] = api.Outcome{}
		for i := len(out); i < cap(out); i++ {
			out[:cap(out)][i] = api.Outcome{}
		}
		for i, s := range scripts {
			want, _ := modelRun(funcs, reducers, 7, 1, 3, s)
			checkOutcome(t, "of another sweep", other[i], want)
			if i != over {
				checkOutcome(t, "of the same sweep", out[i], want)
			}
		}
	}
}
