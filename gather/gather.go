// Package gather: the reducers, and what they make of what they are given.
package gather

import (
	"iter"

	"distaff/api"
)

// Values tells what reducers of these kinds make of what they are given, if that is told in the serial order.
func Values(kinds iter.Seq2[int, int], given []api.Event) []api.Value {
	var out []api.Value
	for r, kind := range kinds {
		var v api.Value
		for _, event := range given {
			if event.R == r {
				give(&v, kind, event.N)
			}
		}
		out = append(out, v)
	}
	return out
}

// give gives a reducer of that kind, which has gathered v, one number more.
func give(v *api.Value, kind int, n int64) {
	switch kind {
	case api.Sum:
		v.N += n
	case api.Most:
		if !v.Is || n > v.N {
			v.N = n
		}
	case api.Least:
		if !v.Is || n < v.N {
			v.N = n
		}
	case api.List:
		v.L = append(v.L, n)
	case api.Last:
		v.N = n
	}
	v.Is = true
}
