package run

import (
	"cmp"
	"slices"
	"strings"

	"gradus/api"
	"gradus/lex"
	"gradus/word"
)

// mostShown is how many bytes of a string are shown.
const mostShown = 64

type value interface{ tag() int }

type (
	null   struct{}
	truth  bool
	number int
	text   string

	// record has its fields by rising names. It bears one coercion, or nil, as a function does: those that come behind
	// one another are put together.
	record struct {
		fields []field
		bears  *api.Co
	}
	function struct {
		body  func(value) value
		bears *api.Co
	}
)

type field struct {
	name string
	is   value
}

func (null) tag() int     { return api.TagNull }
func (truth) tag() int    { return api.TagBool }
func (number) tag() int   { return api.TagInt }
func (text) tag() int     { return api.TagStr }
func (record) tag() int   { return api.TagRec }
func (function) tag() int { return api.TagFun }

// newRecord keeps the list that it is handed.
func newRecord(fields []field) record {
	slices.SortFunc(fields, func(a, b field) int { return cmp.Compare(a.name, b.name) })
	return record{fields: fields}
}

// find is where the field of a name stands, or where it would.
func (v record) find(name string) (int, bool) {
	return slices.BinarySearchFunc(v.fields, name, func(f field, name string) int { return cmp.Compare(f.name, name) })
}

func shown(v value) string {
	switch v := v.(type) {
	case null:
		return "null"
	case truth:
		if v {
			return "true"
		}
		return "false"
	case number:
		return word.Show(int(v))
	case text:
		return shownText(string(v))
	case record:
		return shownRecord(v)
	}
	return "fn"
}

func shownText(s string) string {
	if len(s) > mostShown {
		return lex.Quote(s[:mostShown]) + ".."
	}
	return lex.Quote(s)
}

func shownRecord(v record) string {
	fields := make([]string, len(v.fields))
	for i, f := range v.fields {
		is := "{..}"
		if f.is.tag() != api.TagRec {
			is = shown(f.is)
		}
		fields[i] = f.name + ": " + is
	}
	return "{" + strings.Join(fields, ", ") + "}"
}
