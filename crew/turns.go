package crew

import (
	"iter"

	"distaff/api"
)

// turns yields whose step is next, and from whom is stolen: by the script, then in rounds. It has no end: whoever ranges over it stops when all is done.
func turns(workers int, script []api.Pick) iter.Seq2[int, int] {
	return func(yield func(int, int) bool) {
		for _, pick := range script {
			if !yield(rest(pick.Worker, workers), rest(pick.Victim, workers)) {
				return
			}
		}
		for round := 0; ; round++ {
			for w := range workers {
				if !yield(w, rest(w+1+round, workers)) {
					return
				}
			}
		}
	}
}

// rest takes -(n + 1) of a number below 0, which the least number has too.
func rest(n, workers int) int {
	if n < 0 {
		n = -(n + 1)
	}
	return n % workers
}
