package distaff_test

import (
	"reflect"
	"runtime"
	"testing"

	"distaff/api"
	"distaff/distaff"
)

// gatherers: a program all of whose reducers are given something, in several frames.
func gatherers() ([][]api.Ins, []int) {
	return [][]api.Ins{
		{put(0, 1, 0), put(1, 2, 0), spawn(1, 3, 1), draw(2, 50), sync(), put(3, 0, 1), put(1, 9, 0), put(0, 8, 0)},
		{put(0, 0, 1), put(1, 0, 2), draw(2, 50)},
	}, []int{api.List, api.List, api.List, api.Sum}
}

// P2: the same arguments, the same answer.
func TestSameAnswer(t *testing.T) {
	funcs, reducers := gatherers()
	p, q := program(t, reducers, funcs...), program(t, reducers, funcs...)
	first := p.Serial(7, 1)
	p.Serial(8, 2)
	for range 5 {
		if !sameOutcome(p.Serial(7, 1), first) || !sameOutcome(q.Serial(7, 1), first) {
			t.Fatal("another answer")
		}
	}
}

// P2: nothing that is handed in is written into, nor its spare room.
func TestHandedInIsLeft(t *testing.T) {
	funcs, reducers := gatherers()
	roomy := func() ([][]api.Ins, []int) {
		f := make([][]api.Ins, 0, 12)
		for _, body := range funcs {
			b := make([]api.Ins, 20)
			for i := range b {
				b[i] = api.Ins{Op: 77}
			}
			copy(b, body)
			f = append(f, b[:len(body)])
		}
		r := []int{77, 77, 77, 77, 77, 77}
		copy(r, reducers)
		return f, r[:len(reducers)]
	}
	whole := func(f [][]api.Ins, r []int) ([][]api.Ins, []int) {
		f, r = f[:cap(f)], r[:cap(r)]
		for i := range f {
			f[i] = f[i][:cap(f[i])]
		}
		return f, r
	}
	f, r := roomy()
	program(t, r, f...).Serial(1, 1)
	f, r = whole(f, r)
	wantF, wantR := whole(roomy())
	if !reflect.DeepEqual(f, wantF) || !reflect.DeepEqual(r, wantR) {
		t.Errorf("%v, %v, want %v, %v", f, r, wantF, wantR)
	}
}

// P2: no list that is handed in is kept.
func TestHandedInIsNotKept(t *testing.T) {
	funcs, reducers := gatherers()
	p := program(t, reducers, funcs...)
	want := p.Serial(7, 1)
	for f := range funcs {
		for i := range funcs[f] {
			funcs[f][i] = api.Ins{Op: api.Spawn}
		}
		funcs[f] = nil
	}
	for i := range reducers {
		reducers[i] = api.Least
	}
	if got := p.Serial(7, 1); !sameOutcome(got, want) {
		t.Errorf("%+v, want %+v", got, want)
	}
}

// scribble writes over all that a list of an outcome holds, its spare room too.
func scribble(o api.Outcome) {
	for i := range o.Values {
		l := o.Values[i].L
		for k := range l[:cap(l)] {
			l[:cap(l)][k] = 77
		}
	}
	for i := range o.Values[:cap(o.Values)] {
		o.Values[:cap(o.Values)][i] = api.Value{N: 77}
	}
	for i := range o.Trace[:cap(o.Trace)] {
		o.Trace[:cap(o.Trace)][i] = api.Event{Worker: 77, R: 77, N: 77}
	}
}

// P2: what comes out may be written into.
func TestAnswersAreNew(t *testing.T) {
	p, e, _ := distaff.New(gatherers())
	if e != api.OK {
		t.Fatal(e)
	}
	want, other := p.Serial(7, 1), p.Serial(7, 1)
	scribble(other)
	if later := p.Serial(7, 1); !sameOutcome(later, want) {
		t.Errorf("a later answer: %+v, want %+v", later, want)
	}
	funcs, reducers := gatherers()
	if model := modelSerial(funcs, reducers, 7, 1); !sameOutcome(want, model) {
		t.Errorf("an earlier answer: %+v, want %+v", want, model)
	}
}

// P2: no two lists of one answer share memory.
func TestListsAreApart(t *testing.T) {
	funcs, reducers := gatherers()
	p, model := program(t, reducers, funcs...), modelSerial(funcs, reducers, 7, 1)
	for r := range 3 {
		o := p.Serial(7, 1)
		l := o.Values[r].L
		for i := range l[:cap(l)] {
			l[:cap(l)][i] = 77
		}
		o.Values[r].L = model.Values[r].L
		if !sameOutcome(o, model) {
			t.Errorf("reducer %d: %+v, want %+v", r, o, model)
		}
	}
}

// P2: one program may be run by several at once, and no goroutine is left.
func TestAtOnce(t *testing.T) {
	funcs, reducers := gatherers()
	p := program(t, reducers, funcs...)
	want := p.Serial(7, 1)
	same := make(chan bool)
	for range 8 {
		go func() {
			ok := true
			for range 100 {
				ok = ok && sameOutcome(p.Serial(7, 1), want)
			}
			same <- ok
		}()
	}
	for range 8 {
		if !<-same {
			t.Error("another answer")
		}
	}
}

func TestNoGoroutineIsLeft(t *testing.T) {
	funcs, reducers := gatherers()
	before := runtime.NumGoroutine()
	for range 100 {
		program(t, reducers, funcs...).Serial(7, 1)
	}
	if after := runtime.NumGoroutine(); after > before {
		t.Errorf("%d goroutines, %d before", after, before)
	}
}
