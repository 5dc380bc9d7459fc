// Package gather: the reducers, and what they make of what they are given.
package gather

import "distaff/api"

// Give gives a reducer of that kind, which has gathered v, one number more. It must be done in the serial order.
func Give(v *api.Value, kind int, n int64) {
	switch kind {
	case api.Sum:
		v.N += n
	case api.Most:
		if !v.Is || n > v.N {
			v.N = n
		}
	case api.Least:
		if !v.Is || n < v.N {
			v.N = n
		}
	case api.List:
		v.L = append(v.L, n)
	case api.Last:
		v.N = n
	}
	v.Is = true
}
