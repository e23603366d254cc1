package run

import "gradus/api"

const (
	// mostHigh is what the document's bound admits: an expression, and 2^16 nested in it. The first Kids of expressions
	// are begun within one another, so that more of them would be too many for Go's stack.
	mostHigh = 1<<16 + 1
	// mostCores are more than what the document's bound admits, of 152 bytes each.
	mostCores = 1 << 24
	// mostRest is how much may be still to be done, a call within another one, ahead of there being no room.
	mostRest = 1 << 26
)

// bounded tells whether functions are no more than they may be. What stands within itself is endless, and what stands
// in many places may be all but endless: it would be run as often.
func bounded(funs []api.Fun) bool {
	left := mostCores
	var look func(c *api.Core, height int) bool
	look = func(c *api.Core, height int) bool {
		left--
		if left < 0 || height > mostHigh {
			return false
		}
		for i := range c.Kids {
			if !look(&c.Kids[i], height+1) {
				return false
			}
		}
		return true
	}
	for i := range funs {
		if !look(&funs[i].Body, 1) {
			return false
		}
	}
	return true
}
