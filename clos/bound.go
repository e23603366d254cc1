package clos

import (
	"math"

	"gradus/api"
)

const (
	// mostHigh is what the document's bound admits: one thing, and 2^16 nested in it. Functions call themselves as often.
	mostHigh = 1<<16 + 1
	// mostBytes is what the document's bound admits as an answer.
	mostBytes = math.MaxInt32
)

// How many bytes things take, without what stands in their lists. A flat function's body counts for itself.
const (
	numberBytes = 8
	textBytes   = 16
	needBytes   = 24
	typeBytes   = 72
	coBytes     = 120
	coreBytes   = 152
	flatBytes   = 24
)

// room is how many bytes there may be yet.
type room int

// forBodies tells whether bodies are no more than the document's bound admits. What stands within itself is endless, and
// what stands in many places may be all but endless: it is copied as often.
func (r *room) forBodies(funs []api.Fun) bool {
	for i := range funs {
		if !r.forCore(&funs[i].Body, 1) {
			return false
		}
	}
	return true
}

func (r *room) take(bytes int) bool {
	*r -= room(bytes)
	return *r >= 0
}

func (r *room) forCore(c *api.Core, height int) bool {
	return height <= mostHigh && r.take(coreBytes+len(c.Ints)*numberBytes+len(c.Names)*textBytes) &&
		within(c.Types, 0, r.forType) && within(c.Cos, 0, r.forCo) && within(c.Kids, height, r.forCore)
}

func (r *room) forType(t *api.Type, height int) bool {
	return height <= mostHigh && r.take(typeBytes+len(t.Names)*textBytes) && within(t.Kids, height, r.forType)
}

func (r *room) forCo(c *api.Co, height int) bool {
	return height <= mostHigh && r.take(coBytes+len(c.Tags)*numberBytes+len(c.Needs)*needBytes+len(c.Names)*textBytes) &&
		within(c.Fields, height, r.forCo) && within(c.Fun, height, r.forCo)
}

// within tells whether there is room for all things of a list, which stand in one of that height.
func within[Thing any](list []Thing, height int, room func(*Thing, int) bool) bool {
	for i := range list {
		if !room(&list[i], height+1) {
			return false
		}
	}
	return true
}
