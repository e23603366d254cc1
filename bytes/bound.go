package bytes

import (
	"math"

	"gradus/api"
)

const (
	// mostHigh is what the document's bound admits: one coercion, and 2^16 nested in it. Functions call themselves as often.
	mostHigh = 1<<16 + 1
	// mostItems is what the document's bound admits as an answer. A number is an item, and so is a byte of a text.
	mostItems = math.MaxInt32
)

// How many numbers things are at the least, each list being one.
const (
	codeNumbers  = 7
	coNumbers    = 5
	needNumbers  = 2
	procNumbers  = 3
	instrNumbers = 4
)

// room is how many items there may be yet. What stands in many places is written as often, but lists of coercions that
// do, which may be all but endless, are gone through once.
type room struct {
	left  int
	known map[place]extent
}

// place is where a list of coercions stands.
type place struct {
	first *api.Co
	many  int
}

// extent is how many coercions stand within one another, and how many items all of them are.
type extent struct {
	height, items int
}

// bounded tells whether a code is no more than the document's bound admits.
func bounded(c api.Code) bool {
	r := room{mostItems, map[place]extent{}}
	_, ok := r.forCos(c.Cos, 0)
	return ok && r.take(codeNumbers+len(c.Ints)) && forAll(c.Strs, r.forText) &&
		forAll(c.Shapes, r.forTexts) && forAll(c.Procs, r.forProc)
}

// take is asked no more once there is no room.
func (r *room) take(items int) bool {
	r.left -= items
	return r.left >= 0
}

func forAll[Thing any](list []Thing, room func(Thing) bool) bool {
	for _, thing := range list {
		if !room(thing) {
			return false
		}
	}
	return true
}

func (r *room) forText(s string) bool {
	return r.take(1 + len(s))
}

func (r *room) forTexts(list []string) bool {
	return r.take(1) && forAll(list, r.forText)
}

func (r *room) forProc(p api.Proc) bool {
	return r.take(procNumbers + instrNumbers*len(p.Code))
}

func (r *room) forNeed(n api.Need) bool {
	return r.take(needNumbers + len(n.Name))
}

// forCos tells how high the highest of a list is, too. While the list is gone through, it is too high to stand anywhere,
// so that there is no room for what stands within itself.
func (r *room) forCos(list []api.Co, around int) (int, bool) {
	if len(list) == 0 {
		return 0, true
	}
	at := place{&list[0], len(list)}
	if e, again := r.known[at]; again {
		return e.height, around+e.height <= mostHigh && r.take(e.items)
	}
	if around == mostHigh {
		return 0, false
	}
	r.known[at] = extent{height: mostHigh + 1}
	before, highest := r.left, 0
	for i := range list {
		height, ok := r.forCo(&list[i], around)
		if !ok {
			return 0, false
		}
		highest = max(highest, height)
	}
	r.known[at] = extent{highest, before - r.left}
	return highest, true
}

// forCo tells how high a coercion is, too.
func (r *room) forCo(c *api.Co, around int) (int, bool) {
	if !r.take(coNumbers+len(c.Tags)) || !forAll(c.Needs, r.forNeed) || !forAll(c.Names, r.forText) {
		return 0, false
	}
	fields, ok := r.forCos(c.Fields, around+1)
	if !ok {
		return 0, false
	}
	fun, ok := r.forCos(c.Fun, around+1)
	return max(fields, fun) + 1, ok
}
