package coerce

import (
	"math"
	"slices"

	"gradus/api"
)

const (
	// endless stands for all numbers from it on, and for what has no end.
	endless = math.MaxInt
	// mostHigh is what the document's bound admits: one thing, and 2^16 nested in it. Functions may call themselves as often.
	mostHigh = 1<<16 + 1
	// mostBytes is what the document's bound admits as an answer.
	mostBytes = math.MaxInt32
)

// coLists and typeLists are what has others of its sort within.
func coLists(c *api.Co) [2][]api.Co {
	return [2][]api.Co{c.Fields, c.Fun}
}

func typeLists(t *api.Type) [2][]api.Type {
	return [2][]api.Type{t.Kids}
}

// spread goes from one thing to those that are next to it, and so on, until one is wrong. It comes to each just once:
// what stands in many places, or within itself, would take for ever.
func spread[Thing comparable](first Thing, look func(Thing) ([]Thing, bool)) bool {
	met := map[Thing]struct{}{first: {}}
	rest := []Thing{first}
	for len(rest) > 0 {
		thing := rest[len(rest)-1]
		rest = rest[:len(rest)-1]
		next, ok := look(thing)
		if !ok {
			return false
		}
		for _, other := range next {
			if _, again := met[other]; !again {
				met[other] = struct{}{}
				rest = append(rest, other)
			}
		}
	}
	return true
}

// everyOne tells whether something holds of a coercion and of all that stand within it.
func everyOne(c *api.Co, holds func(*api.Co) bool) bool {
	return spread(c, func(c *api.Co) ([]*api.Co, bool) {
		if !holds(c) {
			return nil, false
		}
		var next []*api.Co
		for _, list := range coLists(c) {
			for i := range list {
				next = append(next, &list[i])
			}
		}
		return next, true
	})
}

// once makes a function work out just once what it answers to one argument.
func once[From comparable](work func(From) api.Co) func(From) api.Co {
	known := map[From]api.Co{}
	return func(from From) api.Co {
		c, ok := known[from]
		if !ok {
			c = work(from)
			known[from] = c
		}
		return c
	}
}

// extent is how many things stand within one another, and what all of them weigh.
type extent struct {
	height, weight int
}

func (e extent) with(within extent) extent {
	return extent{max(e.height, plus(within.height, 1)), plus(e.weight, within.weight)}
}

// plus is asked of numbers that are not below 0.
func plus(a, b int) int {
	if a > endless-b {
		return endless
	}
	return a + b
}

// measure counts what stands in many places as often as it stands there, but looks at it once. While it looks at a
// thing, that is endless, so that what stands within itself comes to be so.
func measure[Thing any](top *Thing, lists func(*Thing) [2][]Thing, weigh func(*Thing) int) extent {
	known := map[*Thing]extent{}
	depth := 0
	var look func(*Thing) extent
	look = func(thing *Thing) extent {
		if e, ok := known[thing]; ok {
			return e
		}
		e := extent{endless, endless}
		if depth == mostHigh {
			return e
		}
		known[thing] = e
		depth++
		e = extent{1, weigh(thing)}
		for _, list := range lists(thing) {
			for i := range list {
				e = e.with(look(&list[i]))
			}
		}
		depth--
		known[thing] = e
		return e
	}
	return look(top)
}

// own is a coercion that shares no list with any other one, nor with itself. One that is too great for that is nothing.
func own(c api.Co) api.Co {
	if measure(&c, coLists, bytesOf).weight > mostBytes {
		return api.Co{}
	}
	return ownCopy(c)
}

// bytesOf is how many a coercion takes: five lists, and what is in them but for those that stand within it.
func bytesOf(c *api.Co) int {
	const number, text, list = 8, 16, 24
	return 5*list + len(c.Tags)*number + len(c.Needs)*(text+number) + len(c.Names)*text
}

func ownCopy(c api.Co) api.Co {
	return api.Co{
		Tags:   slices.Clone(c.Tags),
		Needs:  slices.Clone(c.Needs),
		Names:  slices.Clone(c.Names),
		Fields: ownCopies(c.Fields),
		Fun:    ownCopies(c.Fun),
	}
}

func ownCopies(list []api.Co) []api.Co {
	list = slices.Clone(list)
	for i, c := range list {
		list[i] = ownCopy(c)
	}
	return list
}
