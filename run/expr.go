package run

import "gradus/api"

// begin runs an expression up to the first value that it comes to; what is done with that is the last of rest then.
func (r *runner) begin(c *api.Core, s *scope) value {
	switch c.Kind {
	case api.CInt:
		return number(c.N)
	case api.CStr:
		return text(c.Text)
	case api.CBool:
		return truth(c.N == 1)
	case api.CNull:
		return null{}
	case api.CVar:
		return s.at(c.N)
	case api.CFn:
		return r.function(&c.Kids[0], s)
	case api.CGlobal:
		return r.function(&r.funs[c.N].Body, nil)
	case api.CRead:
		return r.read()
	case api.CRec:
		return r.record(c, s, nil)
	case api.CCall, api.CWith, api.COp, api.CEq, api.CCat:
		return r.both(c, s, r.ofTwo(c))
	}
	return r.first(c, s, r.ofOne(c, s))
}

// first goes on with what the first Kid comes to.
func (r *runner) first(c *api.Core, s *scope, next func(value) value) value {
	r.then(next)
	return r.begin(&c.Kids[0], s)
}

// both goes on with what the two Kids come to.
func (r *runner) both(c *api.Core, s *scope, next func(a, b value) value) value {
	return r.first(c, s, func(a value) value {
		r.then(func(b value) value { return next(a, b) })
		return r.begin(&c.Kids[1], s)
	})
}

func (r *runner) ofOne(c *api.Core, s *scope) func(value) value {
	switch c.Kind {
	case api.CIf:
		return func(v value) value { return r.begin(branch(c, v), s) }
	case api.CLet:
		return func(v value) value { return r.begin(&c.Kids[1], s.with(v)) }
	case api.CSel:
		return func(v value) value { return r.field(v.(record), c.Text) }
	case api.CIs:
		return func(v value) value { return truth(v.tag() == c.N) }
	case api.CNot:
		return func(v value) value { return !v.(truth) }
	case api.CNeg:
		return func(v value) value { return operation(api.OpSub, number(0), v) }
	case api.CPrint:
		return r.print
	case api.CCast:
		return func(v value) value { return r.apply(r.coercions.ofCast(c), v) }
	case api.CCo:
		return func(v value) value { return r.apply(&c.Cos[0], v) }
	}
	panic(stuck())
}

func (r *runner) ofTwo(c *api.Core) func(a, b value) value {
	switch c.Kind {
	case api.CCall:
		return r.call
	case api.CWith:
		return func(a, b value) value { return r.changed(a.(record), field{c.Text, b}) }
	case api.CEq:
		return equal
	case api.CCat:
		return joined
	}
	return func(a, b value) value { return operation(c.N, a, b) }
}

func branch(c *api.Core, test value) *api.Core {
	if test.(truth) {
		return &c.Kids[1]
	}
	return &c.Kids[2]
}

// record goes on behind the fields that there are already.
func (r *runner) record(c *api.Core, s *scope, fields []field) value {
	at := len(fields)
	if at == len(c.Kids) {
		return newRecord(fields)
	}
	r.then(func(v value) value { return r.record(c, s, append(fields, field{c.Names[at], v})) })
	return r.begin(&c.Kids[at], s)
}

// function is one whose body has what stood in scope, and what it is called with.
func (r *runner) function(body *api.Core, s *scope) value {
	return function{body: func(v value) value { return r.begin(body, s.with(v)) }}
}
