package crew

import (
	"sync"

	"distaff/api"
	"distaff/code"
)

// Sweep tells how the program goes by each of the scripts, which have passed Check. The runs read the same code and write nothing in common: each fills an element of its own, so that it does not show which of them was done first.
func Sweep(c *code.Code, seed uint64, argument int64, workers int, scripts [][]api.Pick) []api.Outcome {
	outcomes := make([]api.Outcome, len(scripts))
	var runs sync.WaitGroup
	for i, script := range scripts {
		runs.Go(func() { outcomes[i] = Run(c, seed, argument, workers, script) })
	}
	runs.Wait()
	return outcomes
}
