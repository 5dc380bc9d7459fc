package distaff_test

import (
	"math/big"

	"distaff/api"
)

// modelFrame: by its number in the list of all frames of a run.
type modelFrame struct {
	f       int
	x       int64
	next    int // the next instruction
	rank    int64
	above   []int64
	begun   int // by Spawn or Call; 0 of the root
	parent  int
	out     int
	isAside bool
}

const none = -1

// modelCrew does the steps of a run by the document's words alone; frames are numbers, and lists are told anew by each change.
type modelCrew struct {
	funcs  [][]api.Ins
	seed   uint64
	frames []modelFrame
	hand   []int
	stack  [][]int
	asides int // how often a frame was set aside
	done   bool
	trace  []api.Event
	stats  api.Stats
}

func modelRest(n, workers int) int {
	b := big.NewInt(int64(n))
	if n < 0 {
		b.Neg(b.Add(b, big.NewInt(1)))
	}
	return int(b.Mod(b, big.NewInt(int64(workers))).Int64())
}

func (m *modelCrew) begin(ins api.Ins, parent int) int {
	p := &m.frames[parent]
	above := append(append([]int64{}, p.above...), p.rank)
	m.frames = append(m.frames, modelFrame{f: ins.F, x: number(ins, p.x), above: above, begun: ins.Op, parent: parent})
	return len(m.frames) - 1
}

func (m *modelCrew) steal(w, victim int) {
	l := m.stack[victim]
	if len(l) == 0 {
		m.stats.Fails++
		return
	}
	m.stats.Steals++
	m.hand[w] = l[0]
	m.frames[l[0]].out++
	m.stack[victim] = append([]int{}, l[1:]...)
}

func (m *modelCrew) ended(w, id int) {
	f := m.frames[id]
	m.hand[w] = none
	switch f.begun {
	case 0:
		m.done = true
	case api.Call:
		m.hand[w] = f.parent
	case api.Spawn:
		if l := m.stack[w]; len(l) > 0 {
			if l[len(l)-1] != f.parent {
				panic("the last one of the stack has not spawned the frame")
			}
			m.hand[w] = l[len(l)-1]
			m.stack[w] = append([]int{}, l[:len(l)-1]...)
			return
		}
		p := &m.frames[f.parent]
		p.out--
		if p.out == 0 && p.isAside {
			p.isAside = false
			m.hand[w] = f.parent
		}
	}
}

func (m *modelCrew) step(w, victim int) {
	m.stats.Steps++
	id := m.hand[w]
	if id == none {
		m.steal(w, victim)
		return
	}
	body := m.funcs[m.frames[id].f]
	isEnd := m.frames[id].next == len(body)
	if m.frames[id].out != 0 && (isEnd || body[m.frames[id].next].Op == api.Sync) {
		m.frames[id].isAside = true
		m.asides++
		m.hand[w] = none
		return
	}
	if isEnd {
		m.ended(w, id)
		return
	}
	ins := body[m.frames[id].next]
	m.frames[id].next++
	switch f := m.frames[id]; ins.Op {
	case api.Put:
		m.trace = append(m.trace, api.Event{Worker: w, R: ins.R, N: number(ins, f.x)})
		return
	case api.Draw:
		pedigree := append(append([]int64{}, f.above...), f.rank)
		m.trace = append(m.trace, api.Event{Worker: w, R: ins.R, N: drawn(m.seed, pedigree, ins.K)})
	case api.Spawn:
		m.stack[w] = append(append([]int{}, m.stack[w]...), id)
		m.hand[w] = m.begin(ins, id)
	case api.Call:
		m.hand[w] = m.begin(ins, id)
	}
	m.frames[id].rank++
}

// modelRun tells the outcome, and how often a frame was set aside.
func modelRun(funcs [][]api.Ins, reducers []int, seed uint64, argument int64, workers int, script []api.Pick) (api.Outcome, int) {
	m := &modelCrew{funcs: funcs, seed: seed, frames: []modelFrame{{x: argument, parent: none}}, stack: make([][]int, workers)}
	for w := range workers {
		m.hand = append(m.hand, none)
		if w == 0 {
			m.hand[w] = 0
		}
	}
	for i := 0; !m.done; i++ {
		if i < len(script) {
			m.step(modelRest(script[i].Worker, workers), modelRest(script[i].Victim, workers))
			continue
		}
		round, w := (i-len(script))/workers, (i-len(script))%workers
		m.step(w, (w+1+round)%workers)
	}
	m.stats.Frames = len(m.frames)
	return api.Outcome{Values: modelSerial(funcs, reducers, seed, argument).Values, Trace: m.trace, Stats: m.stats}, m.asides
}
