package clos

import (
	"slices"

	"gradus/api"
)

// ownLists is a core whose lists are its own, but for those of its Kids.
func ownLists(c api.Core) api.Core {
	c.Ints, c.Names = slices.Clone(c.Ints), slices.Clone(c.Names)
	c.Types, c.Cos = ownAll(c.Types, ownType), ownAll(c.Cos, ownCo)
	c.Kids = slices.Clone(c.Kids)
	return c
}

func ownType(t api.Type) api.Type {
	t.Names, t.Kids = slices.Clone(t.Names), ownAll(t.Kids, ownType)
	return t
}

func ownCo(c api.Co) api.Co {
	c.Tags, c.Needs, c.Names = slices.Clone(c.Tags), slices.Clone(c.Needs), slices.Clone(c.Names)
	c.Fields, c.Fun = ownAll(c.Fields, ownCo), ownAll(c.Fun, ownCo)
	return c
}

func ownAll[Thing any](list []Thing, own func(Thing) Thing) []Thing {
	list = slices.Clone(list)
	for i, thing := range list {
		list[i] = own(thing)
	}
	return list
}
