package crew

import (
	"distaff/api"
	"distaff/code"
)

// kind is what there is to tell of a step.
type kind int

const (
	went kind = iota
	gave
	stole
	failed
	finished
)

// step is what a worker has done by one. Only one that gave has an event, and its place in the serial order.
type step struct {
	kind  kind
	event api.Event
	place int
}

type worker struct {
	number int
	hand   *task
	stack  []*task
}

func (w *worker) step(c *code.Code, victim *worker) step {
	switch {
	case w.hand == nil:
		return w.steal(victim)
	case w.hand.mustWait():
		return w.setAside()
	case w.hand.atEnd():
		return w.end()
	}
	return w.do(c)
}

func (w *worker) steal(victim *worker) step {
	if len(victim.stack) == 0 {
		return step{kind: failed}
	}
	w.hand = victim.stack[0]
	victim.stack = victim.stack[1:]
	w.hand.out++
	return step{kind: stole}
}

func (w *worker) setAside() step {
	w.hand.aside = true
	w.hand = nil
	return step{kind: went}
}

func (w *worker) do(c *code.Code) step {
	t, ins := w.hand, w.hand.ahead[0]
	t.ahead = t.ahead[1:]
	switch ins.Op {
	case api.Put:
		return w.give(ins.R, t.Number(ins))
	case api.Draw:
		return w.give(ins.R, t.Draw(ins.K))
	case api.Spawn:
		w.stack = append(w.stack, t)
		w.hand = t.begin(c, ins, bySpawn)
	case api.Call:
		w.hand = t.begin(c, ins, byCall)
	case api.Sync:
		t.Sync()
	}
	return step{kind: went}
}

func (w *worker) give(r int, n int64) step {
	place := w.hand.place
	w.hand.place++
	return step{kind: gave, event: api.Event{Worker: w.number, R: r, N: n}, place: place}
}

func (w *worker) end() step {
	t := w.hand
	switch t.origin {
	case asRoot:
		w.hand = nil
		return step{kind: finished}
	case byCall:
		w.hand = t.parent
	case bySpawn:
		w.hand = w.behind(t.parent)
	}
	return step{kind: went}
}

// behind tells with what the worker goes on when a frame that parent has spawned has ended. What is last on the stack is the parent itself: the first ones are stolen first, so that nothing is left there once the parent is.
func (w *worker) behind(parent *task) *task {
	if last := len(w.stack) - 1; last >= 0 {
		t := w.stack[last]
		w.stack = w.stack[:last]
		return t
	}
	parent.out--
	if parent.out == 0 && parent.aside {
		parent.aside = false
		return parent
	}
	return nil
}
