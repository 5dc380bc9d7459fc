package crew

import (
	"slices"

	"distaff/api"
	"distaff/code"
	"distaff/frame"
)

// origin is how a frame was begun: it tells who goes on when the frame has ended.
type origin int

const (
	asRoot origin = iota
	byCall
	bySpawn
)

// task is a frame that goes from worker to worker.
type task struct {
	frame.Frame
	origin origin
	// parent waits for the frame, or has spawned it; the root has none.
	parent *task
	// ahead are the instructions that are still to be done.
	ahead []api.Ins
	// place is where in the serial order the next number stands that the frame gives, so that it need not be given in that order.
	place int
	out   int
	aside bool
}

func newTask(c *code.Code, f frame.Frame) *task {
	return &task{Frame: f, ahead: slices.Collect(c.Body(f.Func))}
}

// begin leaves the new frame its places in the serial order: the numbers behind it stand behind all of its own, whoever comes first.
func (t *task) begin(c *code.Code, ins api.Ins, o origin) *task {
	child := newTask(c, t.Begin(ins))
	child.origin, child.parent, child.place = o, t, t.place
	t.place += c.Gifts(ins.F)
	return child
}

func (t *task) atEnd() bool { return len(t.ahead) == 0 }

// mustWait: a Sync or the end may not be done yet.
func (t *task) mustWait() bool {
	return t.out != 0 && (t.atEnd() || t.ahead[0].Op == api.Sync)
}
