package check

import (
	"slices"

	"gradus/api"
)

// plain is a type that has nothing but its kind.
func plain(kind int) api.Type {
	return api.Type{Kind: kind}
}

func functionType(takes, answers api.Type) api.Type {
	return api.Type{Kind: api.TFun, Kids: []api.Type{takes, answers}}
}

// withField is a record's type, with the field in the place of one of its name, or beside those that it has. It is not
// normal yet.
func withField(record api.Type, name string, is api.Type) api.Type {
	names, kids := slices.Clone(record.Names), slices.Clone(record.Kids)
	if at := slices.Index(names, name); at >= 0 {
		kids[at] = is
	} else {
		names, kids = append(names, name), append(kids, is)
	}
	return api.Type{Kind: api.TRec, Names: names, Kids: kids}
}

// ownType is for what is answered: types that the checker goes by have lists in common.
func ownType(t api.Type) api.Type {
	t.Names = slices.Clone(t.Names)
	t.Kids = slices.Clone(t.Kids)
	for i, kid := range t.Kids {
		t.Kids[i] = ownType(kid)
	}
	return t
}

func core(kind int, kids ...api.Core) api.Core {
	return api.Core{Kind: kind, Kids: kids}
}

// numbered is a core that has a number.
func numbered(kind, n int, kids ...api.Core) api.Core {
	return api.Core{Kind: kind, N: n, Kids: kids}
}

// named is a core that has a text.
func named(kind int, text string, kids ...api.Core) api.Core {
	return api.Core{Kind: kind, Text: text, Kids: kids}
}

func cast(e api.Core, from, to api.Type, site int) api.Core {
	c := numbered(api.CCast, site, e)
	c.Types = []api.Type{ownType(from), ownType(to)}
	return c
}
