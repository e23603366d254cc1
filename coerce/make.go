package coerce

import (
	"slices"

	"gradus/api"
	"gradus/rel"
	"gradus/types"
)

// cast is from one type to another one, both normal; the label is that of its own side.
type cast struct {
	from, to *api.Type
	label    int
}

func otherSide(label int) int {
	return label ^ 1
}

// normalType is told by Fits, which holds of a type and any just where the former is normal. It is not asked of types
// that stand within themselves: of these there would be no end.
func normalType(t api.Type) bool {
	high := measure(&t, typeLists, func(*api.Type) int { return 1 }).height
	return high <= mostHigh && rel.Fits(t, api.Type{})
}

func newMake() func(cast) api.Co {
	var onward func(cast) api.Co
	onward = once(func(k cast) api.Co { return made(k, onward) })
	return onward
}

func made(k cast, onward func(cast) api.Co) api.Co {
	c := Id()
	if isAny(k.from) && isAny(k.to) {
		return c
	}
	for tag := range api.Tags {
		m, n := partOf(k.from, tag), partOf(k.to, tag)
		switch {
		case m == nil:
		case n == nil:
			c.Tags[tag] = k.label
		case tag == api.TagRec:
			records := cast{m, n, k.label}
			c.Needs = records.needs()
			setFields(&c, records.fields(), onward)
		case tag == api.TagFun:
			setFun(&c, cast{kid(n, 0), kid(m, 0), otherSide(k.label)}, cast{kid(m, 1), kid(n, 1), k.label}, onward)
		}
	}
	return c
}

// partOf is the part of a tag, or nil. That of any is any itself: an open record, or a function from any to any.
func partOf(t *api.Type, tag int) *api.Type {
	switch {
	case isAny(t) || types.Tag(*t) == tag:
		return t
	case t.Kind == api.TUnion:
		at := slices.IndexFunc(t.Kids, func(kid api.Type) bool { return types.Tag(kid) == tag })
		if at >= 0 {
			return &t.Kids[at]
		}
	}
	return nil
}

// needs and fields are asked of records that are not both open. What must be there is told by what it is cast to: an
// open record has no Names.
func (k cast) needs() []api.Need {
	var needs []api.Need
	for _, name := range k.to.Names {
		if !slices.Contains(k.from.Names, name) {
			needs = append(needs, api.Need{Name: name, Label: k.label})
		}
	}
	return needs
}

func (k cast) fields() map[string]cast {
	names := k.to.Names
	if isAny(k.to) {
		names = k.from.Names
	}
	fields := map[string]cast{}
	for _, name := range names {
		from, to := field(k.from, name), field(k.to, name)
		if from != nil {
			fields[name] = cast{from, to, k.label}
		}
	}
	return fields
}

// field is nil, if there is none of that name. Those of an open record are any.
func field(t *api.Type, name string) *api.Type {
	if isAny(t) {
		return t
	}
	at := slices.Index(t.Names, name)
	if at < 0 {
		return nil
	}
	return &t.Kids[at]
}

// kid is what a function takes (0) or answers (1).
func kid(t *api.Type, at int) *api.Type {
	if isAny(t) {
		return t
	}
	return &t.Kids[at]
}

func isAny(t *api.Type) bool {
	return t.Kind == api.TAny
}
