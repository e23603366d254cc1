package check

import (
	"gradus/api"
	"gradus/rel"
)

func (c *checker) choice(n *api.Node) (api.Core, api.Type) {
	test := c.coerced(&n.Kids[0], plain(api.TBool))
	yes, no := c.branches(n)
	is := rel.Join(yes.is, no.is)
	first := c.coerce(yes, is)
	return core(api.CIf, test, first, c.coerce(no, is)), is
}

// branches goes through both of a choice, each with what the test tells of a variable.
func (c *checker) branches(n *api.Node) (yes, no typed) {
	v, told := c.tested(&n.Kids[0])
	if !told {
		yes = c.expr(&n.Kids[1])
		return yes, c.expr(&n.Kids[2])
	}
	before := c.scope[v].is
	with, without := rel.Narrow(before, n.Kids[0].N)
	c.scope[v].is = with
	yes = c.expr(&n.Kids[1])
	c.scope[v].is = without
	no = c.expr(&n.Kids[2])
	c.scope[v].is = before
	return yes, no
}

// tested is the number of the variable whose tag a test asks for.
func (c *checker) tested(n *api.Node) (int, bool) {
	if n.Kind != api.NIs || n.Kids[0].Kind != api.NName {
		return 0, false
	}
	return c.scope.find(n.Kids[0].Text)
}

// taken is an expression as one of the type that is written behind it. Both casts are one site's there.
func (c *checker) taken(n *api.Node) (api.Core, api.Type) {
	e := c.expr(&n.Kids[0])
	to := c.resolved(n, n.Types[0])
	if rel.Sub(e.is, to) {
		return e.core, to
	}
	site := c.program.addSite(c.placeOf(n))
	if e.is.Kind != api.TAny {
		e.core = cast(e.core, e.is, plain(api.TAny), site)
	}
	if to.Kind != api.TAny {
		e.core = cast(e.core, plain(api.TAny), to, site)
	}
	return e.core, to
}
