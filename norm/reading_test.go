package norm

import (
	"reflect"

	"gradus/api"
	"gradus/coerce"
)

// copyAll is a value with lists of its own throughout.
func copyAll[T any](v T) T {
	return copyValue(reflect.ValueOf(v)).Interface().(T)
}

func copyValue(v reflect.Value) reflect.Value {
	out := reflect.New(v.Type()).Elem()
	switch v.Kind() {
	case reflect.Struct:
		for i := range v.NumField() {
			out.Field(i).Set(copyValue(v.Field(i)))
		}
	case reflect.Slice:
		if !v.IsNil() {
			out.Set(reflect.MakeSlice(v.Type(), v.Len(), v.Len()))
		}
		for i := range v.Len() {
			out.Index(i).Set(copyValue(v.Index(i)))
		}
	default:
		out.Set(v)
	}
	return out
}

// read is a second reading of the chapter: all of the program is copied, and then written over in place, first each
// cast, then each coercion from the innermost on.
func read(p api.Program, trim bool) api.Program {
	p = copyAll(p)
	for i := range p.Funs {
		each(&p.Funs[i].Body, readCast)
	}
	for i := range p.Funs {
		if trim {
			each(&p.Funs[i].Body, readTrim)
		}
	}
	return p
}

func readCast(c *api.Core) {
	if c.Kind == api.CCast {
		made := coerce.Make(c.Types[0], c.Types[1], 2*c.N+2)
		*c = api.Core{Kind: api.CCo, Cos: []api.Co{made}, Kids: c.Kids}
	}
}

func readTrim(at *api.Core) {
	if at.Kind != api.CCo {
		return
	}
	c, k := at.Cos[0], at.Kids[0]
	for k.Kind == api.CCo {
		d, m := k.Cos[0], k.Kids[0]
		c, k = coerce.Compose(d, c), m
	}
	tags := map[int]int{
		api.CInt: api.TagInt, api.CStr: api.TagStr, api.CBool: api.TagBool, api.CNull: api.TagNull, api.CRead: api.TagInt,
		api.CFn: api.TagFun, api.CGlobal: api.TagFun,
	}
	tag, alone := tags[k.Kind]
	alone = alone && c.Tags[tag] == 0 && (tag != api.TagFun || len(c.Fun) == 0)
	if alone || whole(c) == whole(api.Co{Tags: make([]int, 6)}) {
		*at = k
		return
	}
	*at = api.Core{Kind: api.CCo, Cos: []api.Co{c}, Kids: []api.Core{k}}
}
