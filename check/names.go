package check

import (
	"gradus/api"
	"gradus/inst"
)

func (c *checker) name(n *api.Node) (api.Core, api.Type) {
	if v, there := c.scope.find(n.Text); there {
		return numbered(api.CVar, v), c.scope[v].is
	}
	from, there := c.inScope(n.Text)
	if !there {
		panic(wrong(c.placeOf(n), api.ErrName))
	}
	if len(c.program.writtenAt(from).Vars) > 0 {
		panic(wrong(c.placeOf(n), api.ErrInst))
	}
	number := c.program.numbers[from]
	if e := c.program.funs[number].e; e != api.OK {
		panic(wrong(c.placeOf(n), e))
	}
	return c.global(number)
}

func (c *checker) instance(n *api.Node) (api.Core, api.Type) {
	at := c.placeOf(n)
	if _, there := c.scope.find(n.Text); there {
		panic(wrong(at, api.ErrInst))
	}
	from, there := c.inScope(n.Text)
	if !there {
		panic(wrong(at, api.ErrName))
	}
	vars := c.program.writtenAt(from).Vars
	if len(vars) == 0 {
		panic(wrong(at, api.ErrInst))
	}
	with := make([]api.Type, len(n.Types))
	for i, t := range n.Types {
		with[i] = c.resolved(n, t)
	}
	if e := inst.Bind(vars, with); e != api.OK {
		panic(wrong(at, e))
	}
	number, e := c.program.addInstance(from, with)
	if e != api.OK {
		panic(wrong(at, e))
	}
	return c.global(number)
}

func (c *checker) global(number int) (api.Core, api.Type) {
	return numbered(api.CGlobal, number), c.program.funs[number].is
}
