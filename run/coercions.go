package run

import (
	"strings"

	"gradus/api"
	"gradus/coerce"
	"gradus/lex"
	"gradus/word"
)

// coercions are those that a run has made so far. Those that are the same stand in one place, so that what was made of
// two places need not be made again.
type coercions struct {
	places map[string]*api.Co // by all that is in them
	casts  map[*api.Core]*api.Co
	pairs  map[pair]*api.Co
}

// pair is two coercions, the latter behind the former.
type pair struct {
	former, latter *api.Co
}

func newCoercions() coercions {
	return coercions{map[string]*api.Co{}, map[*api.Core]*api.Co{}, map[pair]*api.Co{}}
}

func (k coercions) ofCast(c *api.Core) *api.Co {
	made, again := k.casts[c]
	if !again {
		made = k.placeOf(coerce.Make(c.Types[0], c.Types[1], 2*c.N+2))
		k.casts[c] = made
	}
	return made
}

// behind is what a value bears that is coerced by the latter, if it bore the former (nil: nothing). It does just what
// both do one behind the other; were they kept as two, a function that is handed to itself time and again would soon
// bear more than can be counted.
func (k coercions) behind(former, latter *api.Co) *api.Co {
	if former == nil {
		return latter
	}
	two := pair{former, latter}
	made, again := k.pairs[two]
	if !again {
		made = k.placeOf(coerce.Compose(*former, *latter))
		k.pairs[two] = made
	}
	return made
}

func (k coercions) placeOf(c api.Co) *api.Co {
	if len(c.Tags) == 0 {
		panic(stuck()) // of what was not normal
	}
	var all strings.Builder
	write(&all, &c)
	place, again := k.places[all.String()]
	if !again {
		place = &c
		k.places[all.String()] = place
	}
	return place
}

// write writes all that is in a coercion, in such a way that no two are written alike.
func write(all *strings.Builder, c *api.Co) {
	for _, label := range c.Tags {
		all.WriteString(word.Show(label) + " ")
	}
	for _, need := range c.Needs {
		all.WriteString(lex.Quote(need.Name) + word.Show(need.Label))
	}
	all.WriteString("{")
	for i, name := range c.Names {
		all.WriteString(lex.Quote(name))
		write(all, &c.Fields[i])
	}
	all.WriteString("}(")
	for i := range c.Fun {
		write(all, &c.Fun[i])
	}
	all.WriteString(")")
}
