package distaff_test

import (
	"math/big"

	"distaff/api"
)

// model runs a program by the document's words alone, with whole pedigrees and numbers without bounds that are cut when they are told.
type model struct {
	funcs  [][]api.Ins
	seed   uint64
	frames int
	trace  []api.Event
}

func cut(n *big.Int) *big.Int {
	return n.And(n, new(big.Int).SetUint64(1<<64-1))
}

func signed(n *big.Int) int64 { return int64(cut(n).Uint64()) }

func number(ins api.Ins, x int64) int64 {
	n := new(big.Int).Mul(big.NewInt(ins.L), big.NewInt(x))
	return signed(n.Add(n, big.NewInt(ins.K)))
}

// drawn: the number of a pedigree, below k.
func drawn(seed uint64, pedigree []int64, k int64) int64 {
	h := new(big.Int).SetUint64(seed)
	for _, r := range pedigree {
		h.Xor(h, big.NewInt(r+1))
		cut(h.Mul(h, big.NewInt(1099511628211)))
	}
	half := new(big.Int).Div(h, big.NewInt(1<<31))
	h.Xor(h, half)
	cut(h.Mul(h, new(big.Int).SetUint64(0x9E3779B97F4A7C15)))
	half.Div(h, big.NewInt(1<<29))
	h.Xor(h, half)
	return h.Mod(h, big.NewInt(k)).Int64()
}

func (m *model) run(f int, x int64, above []int64) {
	m.frames++
	rank := int64(0)
	for _, ins := range m.funcs[f] {
		pedigree := append(append([]int64{}, above...), rank)
		switch ins.Op {
		case 1:
			m.trace = append(m.trace, api.Event{R: ins.R, N: number(ins, x)})
			continue
		case 2:
			m.trace = append(m.trace, api.Event{R: ins.R, N: drawn(m.seed, pedigree, ins.K)})
		case 3, 4:
			m.run(ins.F, number(ins, x), pedigree)
		}
		rank++
	}
}

func modelValue(kind int, given []int64) api.Value {
	if len(given) == 0 {
		return api.Value{}
	}
	sum, most, least := new(big.Int), given[0], given[0]
	for _, n := range given {
		sum.Add(sum, big.NewInt(n))
		most, least = max(most, n), min(least, n)
	}
	switch kind {
	case 1:
		return api.Value{Is: true, N: signed(sum)}
	case 2:
		return api.Value{Is: true, N: most}
	case 3:
		return api.Value{Is: true, N: least}
	case 4:
		return api.Value{Is: true, L: given}
	}
	return api.Value{Is: true, N: given[len(given)-1]}
}

func modelSerial(funcs [][]api.Ins, reducers []int, seed uint64, argument int64) api.Outcome {
	m := &model{funcs: funcs, seed: seed}
	m.run(0, argument, nil)
	o := api.Outcome{Trace: m.trace, Stats: api.Stats{Frames: m.frames}}
	for r, kind := range reducers {
		var given []int64
		for _, event := range m.trace {
			if event.R == r {
				given = append(given, event.N)
			}
		}
		o.Values = append(o.Values, modelValue(kind, given))
	}
	return o
}
