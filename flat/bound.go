package flat

import "gradus/api"

const (
	// mostHigh is what the document's bound admits: an expression, and 2^16 nested in it.
	mostHigh = 1<<16 + 1
	// mostCores are more than what the document's bound admits, of 152 bytes each.
	mostCores = 1 << 24
	// mostWaiting is how much may wait for something else, a call within another one, ahead of there being no room.
	mostWaiting = 1 << 26
)

// bounded tells whether bodies are no more than they may be. What stands within itself is endless, and what stands in
// many places may be all but endless: it would be run as often.
func bounded(l []api.Flat) bool {
	left := mostCores
	for i := range l {
		if !fits(&l[i].Body, mostHigh, &left) {
			return false
		}
	}
	return true
}

// fits tells whether a core is no higher than that, and takes those in it from how many are left.
func fits(c *api.Core, high int, left *int) bool {
	*left--
	if high == 0 || *left < 0 {
		return false
	}
	for i := range c.Kids {
		if !fits(&c.Kids[i], high-1, left) {
			return false
		}
	}
	return true
}
