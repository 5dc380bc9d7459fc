package distaff_test

import (
	"reflect"
	"runtime"
	"slices"
	"testing"
	"time"

	"distaff/api"
	"distaff/distaff"
)

// gatherers: a program all of whose reducers are given something, in several frames.
func gatherers() ([][]api.Ins, []int) {
	return [][]api.Ins{
		{put(0, 1, 0), put(1, 2, 0), spawn(1, 3, 1), draw(2, 50), sync(), put(3, 0, 1), put(1, 9, 0), put(0, 8, 0)},
		{put(0, 0, 1), put(1, 0, 2), draw(2, 50)},
	}, []int{api.List, api.List, api.List, api.Sum}
}

// stealing: a script of three workers by which the root of gatherers is stolen, and set aside.
func stealing() []api.Pick {
	return []api.Pick{by(0), by(0), by(0), from(1, 0), by(1), by(1), by(0), from(2, 1), by(-1), by(0)}
}

func outcome(p *distaff.Program, workers int, script []api.Pick) api.Outcome {
	o, _ := p.Run(7, 1, workers, script)
	return o
}

// swept: the outcome of stealing, which is told between others.
func swept(p *distaff.Program) api.Outcome {
	out, _ := p.Sweep(7, 1, 3, [][]api.Pick{nil, again(9, 0), stealing(), stealing()[:4]})
	return out[2]
}

// calls: each call that answers an outcome, or several.
func calls() map[string]func(*distaff.Program) api.Outcome {
	return map[string]func(*distaff.Program) api.Outcome{
		"Serial":       func(p *distaff.Program) api.Outcome { return p.Serial(7, 1) },
		"Run by one":   func(p *distaff.Program) api.Outcome { return outcome(p, 1, nil) },
		"Run by three": func(p *distaff.Program) api.Outcome { return outcome(p, 3, stealing()) },
		"Sweep":        swept,
	}
}

// models: what those calls answer of gatherers.
func models() map[string]api.Outcome {
	funcs, reducers := gatherers()
	one, _ := modelRun(funcs, reducers, 7, 1, 1, nil)
	three, _ := modelRun(funcs, reducers, 7, 1, 3, stealing())
	return map[string]api.Outcome{"Serial": modelSerial(funcs, reducers, 7, 1), "Run by one": one, "Run by three": three, "Sweep": three}
}

// P2: the same arguments, the same answer.
func TestSameAnswer(t *testing.T) {
	funcs, reducers := gatherers()
	p, q := program(t, reducers, funcs...), program(t, reducers, funcs...)
	for name, call := range calls() {
		first := call(p)
		p.Serial(8, 2)
		p.Run(8, 2, 4, nil)
		p.Sweep(8, 2, 4, [][]api.Pick{nil, stealing()})
		for range 5 {
			if !sameOutcome(call(p), first) || !sameOutcome(call(q), first) {
				t.Fatalf("%s: another answer", name)
			}
		}
	}
}

// P2: nothing that is handed in is written into, nor its spare room.
func TestHandedInIsLeft(t *testing.T) {
	funcs, reducers := gatherers()
	roomy := func() ([][]api.Ins, []int) {
		f := make([][]api.Ins, 0, 12)
		for _, body := range funcs {
			b := make([]api.Ins, 20)
			for i := range b {
				b[i] = api.Ins{Op: 77}
			}
			copy(b, body)
			f = append(f, b[:len(body)])
		}
		r := []int{77, 77, 77, 77, 77, 77}
		copy(r, reducers)
		return f, r[:len(reducers)]
	}
	whole := func(f [][]api.Ins, r []int) ([][]api.Ins, []int) {
		f, r = f[:cap(f)], r[:cap(r)]
		for i := range f {
			f[i] = f[i][:cap(f[i])]
		}
		return f, r
	}
	f, r := roomy()
	program(t, r, f...).Serial(1, 1)
	f, r = whole(f, r)
	wantF, wantR := whole(roomy())
	if !reflect.DeepEqual(f, wantF) || !reflect.DeepEqual(r, wantR) {
		t.Errorf("%v, %v, want %v, %v", f, r, wantF, wantR)
	}
}

// P2: a script is not written into, nor its spare room.
func TestScriptIsLeft(t *testing.T) {
	funcs, reducers := gatherers()
	p := program(t, reducers, funcs...)
	picks := append(stealing(), from(77, 77), from(-77, -77))
	was := slices.Clone(picks)
	for _, n := range []int{0, 3, len(stealing()), len(picks)} {
		run(t, p, 3, picks[:n])
		if !slices.Equal(picks, was) {
			t.Fatalf("%v, was %v", picks, was)
		}
	}
}

// P2: a script is not kept: what is written into it later changes nothing.
func TestScriptIsNotKept(t *testing.T) {
	funcs, reducers := gatherers()
	p, picks, want := program(t, reducers, funcs...), stealing(), models()
	first := outcome(p, 3, picks)
	for i := range picks {
		picks[i] = by(2)
	}
	for _, o := range []api.Outcome{first, outcome(p, 3, stealing())} {
		checkOutcome(t, "Run by three", o, want["Run by three"])
	}
}

// P2: no list that is handed in is kept.
func TestHandedInIsNotKept(t *testing.T) {
	funcs, reducers := gatherers()
	p := program(t, reducers, funcs...)
	for f := range funcs {
		for i := range funcs[f] {
			funcs[f][i] = api.Ins{Op: api.Spawn}
		}
		funcs[f] = nil
	}
	for i := range reducers {
		reducers[i] = api.Least
	}
	for name, want := range models() {
		checkOutcome(t, name, calls()[name](p), want)
	}
}

// scribble writes over all that a list of an outcome holds, its spare room too.
func scribble(o api.Outcome) {
	for i := range o.Values {
		l := o.Values[i].L
		for k := range l[:cap(l)] {
			l[:cap(l)][k] = 77
		}
	}
	for i := range o.Values[:cap(o.Values)] {
		o.Values[:cap(o.Values)][i] = api.Value{N: 77}
	}
	scribbleTrace(o)
}

func scribbleTrace(o api.Outcome) {
	for i := range o.Trace[:cap(o.Trace)] {
		o.Trace[:cap(o.Trace)][i] = api.Event{Worker: 77, R: 77, N: 77}
	}
}

// P2: what comes out may be written into.
func TestAnswersAreNew(t *testing.T) {
	funcs, reducers := gatherers()
	p := program(t, reducers, funcs...)
	for name, want := range models() {
		call := calls()[name]
		earlier := call(p)
		scribble(call(p))
		checkOutcome(t, name+", earlier", earlier, want)
		for later, want := range models() {
			checkOutcome(t, later+", behind "+name, calls()[later](p), want)
		}
	}
}

// P2: no two lists of one answer share memory.
func TestListsAreApart(t *testing.T) {
	funcs, reducers := gatherers()
	p := program(t, reducers, funcs...)
	for name, want := range models() {
		for r := range 3 {
			o := calls()[name](p)
			l := o.Values[r].L
			for i := range l[:cap(l)] {
				l[:cap(l)][i] = 77
			}
			o.Values[r].L = want.Values[r].L
			checkOutcome(t, name, o, want)
		}
		o := calls()[name](p)
		scribbleTrace(o)
		if !sameValues(o.Values, want.Values) {
			t.Errorf("%s: %+v, want %+v", name, o.Values, want.Values)
		}
	}
}

// P2: one program may be run by several at once.
func TestAtOnce(t *testing.T) {
	funcs, reducers := gatherers()
	p, want := program(t, reducers, funcs...), models()
	same := make(chan bool)
	for range 8 {
		go func() {
			ok := true
			for range 100 {
				for name, call := range calls() {
					ok = ok && sameOutcome(call(p), want[name])
				}
			}
			same <- ok
		}()
	}
	for range 8 {
		if !<-same {
			t.Error("another answer")
		}
	}
}

// P2: no goroutine is left.
func TestNoGoroutineIsLeft(t *testing.T) {
	funcs, reducers := gatherers()
	before := runtime.NumGoroutine()
	for range 100 {
		p := program(t, reducers, funcs...)
		for _, call := range calls() {
			call(p)
		}
	}
	// one that has told the WaitGroup that it is done may still be counted for a moment
	for i := 0; i < 1000 && runtime.NumGoroutine() > before; i++ {
		time.Sleep(time.Millisecond)
	}
	if after := runtime.NumGoroutine(); after > before {
		t.Errorf("%d goroutines, %d before", after, before)
	}
}
