package rel

import (
	"gradus/api"
	"gradus/types"
)

// plainKinds has a kind for each tag.
var plainKinds = [api.Tags]int{
	api.TagNull: api.TNull,
	api.TagBool: api.TBool,
	api.TagInt:  api.TInt,
	api.TagStr:  api.TStr,
	api.TagRec:  api.TRec,
	api.TagFun:  api.TFun,
}

// normal is asked of types of any size and height. Norm refuses those that are beyond the limits, which being normal
// does not hang on, so that of these it is asked level by level. Types that stand in many places are looked at once:
// where one is not normal, all of it is not.
func normal(t api.Type) bool {
	begun := map[*api.Type]struct{}{}
	var look func(t *api.Type) bool
	look = func(t *api.Type) bool {
		if _, ok := begun[t]; ok {
			return true
		}
		begun[t] = struct{}{}
		if types.Size(*t) <= api.MaxType && types.Height(*t) <= api.MaxHeight {
			return isItsNorm(*t)
		}
		return isItsNorm(outline(*t)) && eachKid(t, look)
	}
	return look(&t)
}

func isItsNorm(t api.Type) bool {
	kept, e := types.Norm(t)
	return e == api.OK && types.Same(kept, t)
}

// outline is a type with plain ones in the place of its Kids, so that nothing but its own level is wrong with it.
func outline(t api.Type) api.Type {
	kids := make([]api.Type, len(t.Kids))
	if t.Kind == api.TUnion {
		for i, kid := range t.Kids {
			kids[i] = plain(types.Tag(kid))
		}
	}
	t.Kids = kids
	return t
}

// plain is a type of which little but its tag is told; any, if the tag is that of no type.
func plain(tag int) api.Type {
	if tag < 0 {
		return api.Type{}
	}
	t := api.Type{Kind: plainKinds[tag]}
	if tag == api.TagFun {
		t.Kids = make([]api.Type, 2)
	}
	return t
}

func eachKid(t *api.Type, holds func(kid *api.Type) bool) bool {
	for i := range t.Kids {
		if !holds(&t.Kids[i]) {
			return false
		}
	}
	return true
}

func isAny(t *api.Type) bool {
	return t.Kind == api.TAny
}
