package run

import (
	"slices"

	"gradus/api"
)

// apply is what a coercion makes of a value.
func (r *runner) apply(c *api.Co, v value) value {
	if rec, ok := v.(record); ok {
		rec.mustHave(c.Needs)
	}
	if label := c.Tags[v.tag()]; label != 0 {
		panic(blame(label))
	}
	switch v := v.(type) {
	case record:
		if len(c.Names) > 0 {
			v.bears = r.coercions.behind(v.bears, c)
		}
		return v
	case function:
		if len(c.Fun) > 0 {
			v.bears = r.coercions.behind(v.bears, c)
		}
		return v
	}
	return v
}

func blame(label int) end {
	return end{how: api.EndBlame, n: label}
}

func (v record) mustHave(needs []api.Need) {
	for _, need := range needs {
		if _, there := v.find(need.Name); !there {
			panic(blame(need.Label))
		}
	}
}

func (r *runner) field(v record, name string) value {
	at, there := v.find(name)
	if !there {
		panic(stuck())
	}
	return r.fieldAt(v, at)
}

func (r *runner) fieldAt(v record, at int) value {
	f := v.fields[at]
	if v.bears == nil {
		return f.is
	}
	k := slices.Index(v.bears.Names, f.name)
	if k < 0 {
		return f.is
	}
	return r.apply(&v.bears.Fields[k], f.is)
}

// changed is a record with a field that is new, or another one. That one's old value is not read, so that it can't be
// blamed for.
func (r *runner) changed(v record, with field) value {
	at, there := v.find(with.name)
	fields := make([]field, 0, len(v.fields)+1)
	for i, f := range v.fields {
		if i == at {
			fields = append(fields, with)
		}
		if i != at || !there {
			fields = append(fields, field{f.name, r.fieldAt(v, i)})
		}
	}
	if at == len(v.fields) {
		fields = append(fields, with)
	}
	return record{fields: fields}
}

func (r *runner) call(f, a value) value {
	if r.fuel <= 0 {
		panic(end{how: api.EndFuel})
	}
	r.fuel--
	called := f.(function)
	if c := called.bears; c != nil {
		a = r.apply(&c.Fun[0], a)
		r.then(func(v value) value { return r.apply(&c.Fun[1], v) })
	}
	return called.body(a)
}
