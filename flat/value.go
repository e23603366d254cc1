package flat

import (
	"maps"
	"slices"
	"strings"

	"gradus/api"
	"gradus/lex"
	"gradus/word"
)

// mostShown is how many bytes of a string are shown.
const mostShown = 64

// value is null, which is nil, a bool, an int, a string, a record or a function.
type value any

type (
	record struct {
		fields map[string]value
		// bears is the one coercion that it bears, or nil: those that come behind one another are put together.
		bears *api.Co
	}
	function struct {
		body  *api.Core
		made  []value // what it was made with
		bears *api.Co // as of a record
	}
)

func newRecord(names []string, values []value) record {
	fields := map[string]value{}
	for i, v := range values {
		fields[names[i]] = v
	}
	return record{fields: fields}
}

func (v record) names() []string {
	return slices.Sorted(maps.Keys(v.fields))
}

func tagOf(v value) int {
	switch v.(type) {
	case nil:
		return api.TagNull
	case bool:
		return api.TagBool
	case int:
		return api.TagInt
	case string:
		return api.TagStr
	case record:
		return api.TagRec
	}
	return api.TagFun
}

func shown(v value) string {
	switch v := v.(type) {
	case nil:
		return "null"
	case bool:
		if v {
			return "true"
		}
		return "false"
	case int:
		return word.Show(v)
	case string:
		return shownText(v)
	case record:
		return shownRecord(v)
	}
	return "fn"
}

func shownText(s string) string {
	if len(s) > mostShown {
		return lex.Quote(s[:mostShown]) + ".."
	}
	return lex.Quote(s)
}

// shownRecord does not look at what the record bears.
func shownRecord(v record) string {
	fields := v.names()
	for i, name := range fields {
		is := "{..}"
		if f := v.fields[name]; tagOf(f) != api.TagRec {
			is = shown(f)
		}
		fields[i] = name + ": " + is
	}
	return "{" + strings.Join(fields, ", ") + "}"
}
