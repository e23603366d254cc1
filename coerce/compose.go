package coerce

import (
	"cmp"
	"maps"
	"slices"

	"gradus/api"
)

// pair is two coercions, both normal, the latter behind the former; nil stands for Id, and does not for both.
type pair struct {
	former, latter *api.Co
}

func newCompose() func(pair) api.Co {
	var onward func(pair) api.Co
	onward = once(func(p pair) api.Co {
		switch {
		case p.former == nil:
			return *p.latter
		case p.latter == nil:
			return *p.former
		}
		return composed(p.former, p.latter, onward)
	})
	return onward
}

func composed(a, b *api.Co, onward func(pair) api.Co) api.Co {
	c := Id()
	c.Needs = composedNeeds(a, b)
	for tag := range api.Tags {
		c.Tags[tag] = cmp.Or(a.Tags[tag], b.Tags[tag])
		switch {
		case c.Tags[tag] != 0:
		case tag == api.TagRec:
			setFields(&c, pairsOfFields(a, b), onward)
		case tag == api.TagFun && len(a.Fun)+len(b.Fun) > 0:
			setFun(&c, pair{funAt(b, 0), funAt(a, 0)}, pair{funAt(a, 1), funAt(b, 1)}, onward)
		}
	}
	return c
}

func composedNeeds(a, b *api.Co) []api.Need {
	needs := slices.Clone(a.Needs)
	if a.Tags[api.TagRec] != 0 {
		return needs
	}
	there := map[string]struct{}{}
	for _, need := range a.Needs {
		there[need.Name] = struct{}{}
	}
	for _, need := range b.Needs {
		if _, ok := there[need.Name]; !ok {
			needs = append(needs, need)
		}
	}
	return needs
}

func pairsOfFields(a, b *api.Co) map[string]pair {
	fields := map[string]pair{}
	for i, name := range a.Names {
		fields[name] = pair{former: &a.Fields[i]}
	}
	for i, name := range b.Names {
		fields[name] = pair{fields[name].former, &b.Fields[i]}
	}
	return fields
}

func funAt(c *api.Co, at int) *api.Co {
	if len(c.Fun) == 0 {
		return nil
	}
	return &c.Fun[at]
}

// setFields puts in what comes of each field, by rising names; Id is left out.
func setFields[From any](c *api.Co, fields map[string]From, onward func(From) api.Co) {
	for _, name := range slices.Sorted(maps.Keys(fields)) {
		field := onward(fields[name])
		if !isId(&field) {
			c.Names = append(c.Names, name)
			c.Fields = append(c.Fields, field)
		}
	}
}

// setFun puts in what comes of what is taken and of what is answered, unless both are Id.
func setFun[From any](c *api.Co, takes, answers From, onward func(From) api.Co) {
	fun := []api.Co{onward(takes), onward(answers)}
	if !isId(&fun[0]) || !isId(&fun[1]) {
		c.Fun = fun
	}
}
