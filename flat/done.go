package flat

import (
	"slices"

	"gradus/api"
	"gradus/word"
)

// done is what becomes of an expression whose Kids have come to values: a value, or, of a call, the turn of a body.
func (r *runner) done(c *api.Core, kids []value) (turn, value) {
	if c.Kind == api.CCall {
		return r.call(kids[0], kids[1]), nil
	}
	return turn{}, r.result(c, kids)
}

func (r *runner) result(c *api.Core, kids []value) value {
	switch c.Kind {
	case api.CRec:
		return newRecord(c.Names, kids)
	case api.CSel:
		return r.field(kids[0].(record), c.Text)
	case api.CWith:
		return r.changed(kids[0].(record), c.Text, kids[1])
	case api.CIs:
		return tagOf(kids[0]) == c.N
	case api.COp:
		return operation(c.N, kids[0], kids[1])
	case api.CEq:
		return equal(kids[0], kids[1])
	case api.CCat:
		return joined(kids[0].(string), kids[1].(string))
	case api.CNot:
		return !kids[0].(bool)
	case api.CNeg:
		return operation(api.OpSub, 0, kids[0])
	case api.CPrint:
		r.tell("print " + shown(kids[0]))
		return nil
	case api.CCast:
		return r.apply(r.coercions.ofCast(c), kids[0])
	case api.CCo:
		return r.apply(&c.Cos[0], kids[0])
	}
	panic(end{how: api.EndStuck})
}

func operation(op int, a, b value) value {
	n, e := word.Bin(op, a.(int), b.(int))
	switch {
	case e == api.ErrZero:
		panic(end{api.EndTrap, api.TrapZero})
	case e != api.OK:
		panic(end{how: api.EndStuck})
	case op == api.OpLt || op == api.OpLe:
		return n == 1
	}
	return n
}

func equal(a, b value) value {
	tag := tagOf(a)
	switch {
	case tag != tagOf(b):
		return false
	case tag == api.TagRec || tag == api.TagFun:
		panic(end{api.EndTrap, api.TrapEqual})
	}
	return a == b
}

func joined(a, b string) value {
	if len(a)+len(b) > api.MaxConcat {
		panic(end{api.EndTrap, api.TrapConcat})
	}
	return a + b
}

// function is one that is made with what it captures.
func (r *runner) function(c *api.Core, vars []value) value {
	f := function{body: &r.flats[c.N].Body}
	for _, v := range c.Ints {
		f.made = append(f.made, vars[v])
	}
	return f
}

// call is the turn of a function's body. A coerced one waits for that, also where nothing is done with what it answers.
func (r *runner) call(f, a value) turn {
	if r.fuel <= 0 {
		panic(end{how: api.EndFuel})
	}
	r.fuel--
	called := f.(function)
	if c := called.bears; c != nil {
		a = r.apply(&c.Fun[0], a)
		r.wait(waiting{answers: &c.Fun[1]})
	}
	return turn{called.body, slices.Concat(called.made, []value{a})}
}
