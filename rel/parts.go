package rel

import (
	"slices"

	"gradus/api"
	"gradus/types"
)

// part is what a type has of one tag: of is the type of just that tag, or any, of which it is the part then.
type part struct {
	tag int
	of  *api.Type
}

// partsOf is asked of normal types.
func partsOf(t *api.Type) []part {
	var room [api.Tags]part
	list := room[:0]
	switch t.Kind {
	case api.TAny:
		for tag := range room {
			list = append(list, part{tag, t})
		}
	case api.TUnion:
		for i := range t.Kids {
			list = append(list, part{types.Tag(t.Kids[i]), &t.Kids[i]})
		}
	default:
		list = append(list, part{types.Tag(*t), t})
	}
	return list
}

// open is asked of records. One that is open has no Names and no Kids, since any has none.
func (p part) open() bool {
	return isAny(p.of)
}

// takes and answers are asked of functions; any's is from any to any.
func (p part) takes() *api.Type {
	if isAny(p.of) {
		return p.of
	}
	return &p.of.Kids[0]
}

func (p part) answers() *api.Type {
	if isAny(p.of) {
		return p.of
	}
	return &p.of.Kids[1]
}

// field is nil, if there is none of that name.
func (p part) field(name string) *api.Type {
	at := slices.Index(p.of.Names, name)
	if at < 0 {
		return nil
	}
	return &p.of.Kids[at]
}

// within is how a relation goes on from parts to types within them; alone is what it is of a part that has no
// counterpart.
type within struct {
	alone              bool
	records, functions func(m, n part) bool
}

// eachPart holds each of a's parts against that of b with its tag.
func eachPart(a, b *api.Type, w within) bool {
	others := partsOf(b)
	for _, m := range partsOf(a) {
		at := slices.IndexFunc(others, func(n part) bool { return n.tag == m.tag })
		ok := true
		switch {
		case at < 0:
			ok = w.alone
		case m.tag == api.TagRec:
			ok = w.records(m, others[at])
		case m.tag == api.TagFun:
			ok = w.functions(m, others[at])
		}
		if !ok {
			return false
		}
	}
	return true
}

// hasFields tells whether m has all that n has, and whether the relation holds of each of these.
func hasFields(m, n part, onward relation) bool {
	for i, name := range n.of.Names {
		kid := m.field(name)
		if kid == nil || !onward(kid, &n.of.Kids[i]) {
			return false
		}
	}
	return true
}

// sharedFields tells whether the relation holds of each field that both have.
func sharedFields(m, n part, onward relation) bool {
	for i, name := range n.of.Names {
		kid := m.field(name)
		if kid != nil && !onward(kid, &n.of.Kids[i]) {
			return false
		}
	}
	return true
}

// turned goes on the other way round at what functions take.
func turned(m, n part, takes, answers relation) bool {
	return takes(n.takes(), m.takes()) && answers(m.answers(), n.answers())
}
