package flat

import (
	"strings"

	"gradus/api"
	"gradus/coerce"
	"gradus/word"
)

// coercions are those that a run has made so far. Each stands in one place, in whatever way it was made, so that what
// comes of two places is made just once: what goes through casts time and again soon bears what it has borne before.
type coercions struct {
	casts  map[*api.Core]*api.Co
	pairs  map[[2]*api.Co]*api.Co // of two, the latter behind the former
	places map[string]*api.Co     // by all that is in them
}

func newCoercions() coercions {
	return coercions{map[*api.Core]*api.Co{}, map[[2]*api.Co]*api.Co{}, map[string]*api.Co{}}
}

func (k coercions) ofCast(c *api.Core) *api.Co {
	made, again := k.casts[c]
	if !again {
		made = k.placeOf(coerce.Make(c.Types[0], c.Types[1], 2*c.N+2))
		k.casts[c] = made
	}
	return made
}

// behind is what a value bears that bore the former (nil: nothing), and is coerced by the latter. That does just what
// both do; a value that bore each of them for itself would soon bear more than can be counted, where a function is handed
// to itself time and again.
func (k coercions) behind(former, latter *api.Co) *api.Co {
	if former == nil {
		return latter
	}
	two := [2]*api.Co{former, latter}
	made, again := k.pairs[two]
	if !again {
		made = k.placeOf(coerce.Compose(*former, *latter))
		k.pairs[two] = made
	}
	return made
}

func (k coercions) placeOf(c api.Co) *api.Co {
	if len(c.Tags) == 0 {
		panic(end{how: api.EndStuck}) // it was made of what is not normal
	}
	var all strings.Builder
	write(&all, &c)
	place, again := k.places[all.String()]
	if !again {
		place = &c
		k.places[all.String()] = place
	}
	return place
}

// write writes all that is in a normal coercion, lists behind how many they have, so that no two are written alike.
func write(all *strings.Builder, c *api.Co) {
	number := func(n int) { all.Write(word.Put(nil, n)) }
	name := func(s string) {
		number(len(s))
		all.WriteString(s)
	}
	for _, label := range c.Tags {
		number(label)
	}
	number(len(c.Needs))
	for _, need := range c.Needs {
		name(need.Name)
		number(need.Label)
	}
	number(len(c.Names))
	for i, s := range c.Names {
		name(s)
		write(all, &c.Fields[i])
	}
	number(len(c.Fun))
	for i := range c.Fun {
		write(all, &c.Fun[i])
	}
}
