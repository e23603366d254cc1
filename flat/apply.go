package flat

import (
	"slices"

	"gradus/api"
)

// apply is what a coercion makes of a value.
func (r *runner) apply(c *api.Co, v value) value {
	rec, isRecord := v.(record)
	if isRecord {
		rec.mustHave(c.Needs)
	}
	if label := c.Tags[tagOf(v)]; label != 0 {
		panic(end{api.EndBlame, label})
	}
	if isRecord && len(c.Names) > 0 {
		rec.bears = r.coercions.behind(rec.bears, c)
		return rec
	}
	if f, ok := v.(function); ok && len(c.Fun) > 0 {
		f.bears = r.coercions.behind(f.bears, c)
		return f
	}
	return v
}

func (v record) mustHave(needs []api.Need) {
	for _, need := range needs {
		if _, there := v.fields[need.Name]; !there {
			panic(end{api.EndBlame, need.Label})
		}
	}
}

func (r *runner) field(v record, name string) value {
	f, there := v.fields[name]
	switch {
	case !there:
		panic(end{how: api.EndStuck})
	case v.bears == nil:
		return f
	}
	at := slices.Index(v.bears.Names, name)
	if at < 0 {
		return f
	}
	return r.apply(&v.bears.Fields[at], f)
}

// changed is a record with a field that is new, or another one. That one's old value is not read, so that nobody is
// blamed for it.
func (r *runner) changed(v record, name string, is value) value {
	fields := map[string]value{name: is}
	for _, other := range v.names() {
		if other != name {
			fields[other] = r.field(v, other)
		}
	}
	return record{fields: fields}
}
