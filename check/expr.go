package check

import "gradus/api"

// noTree is told to the face alone, where what is handed in was never parsed.
const noTree = "no tree that was parsed"

// expr goes through an expression. How many there are is counted, so that those that stand within themselves end too.
func (c *checker) expr(n *api.Node) typed {
	if c.left == 0 {
		panic(noTree)
	}
	c.left--
	e, is := c.byKind(n)
	return typed{e, is, c.placeOf(n)}
}

func (c *checker) byKind(n *api.Node) (api.Core, api.Type) {
	switch n.Kind {
	case api.NInt:
		return numbered(api.CInt, n.N), plain(api.TInt)
	case api.NStr:
		return named(api.CStr, n.Text), plain(api.TStr)
	case api.NBool:
		return numbered(api.CBool, n.N), plain(api.TBool)
	case api.NNull:
		return core(api.CNull), plain(api.TNull)
	case api.NRead:
		return core(api.CRead), plain(api.TInt)
	case api.NName:
		return c.name(n)
	case api.NInst:
		return c.instance(n)
	case api.NLet:
		return c.let(n)
	case api.NFn:
		return c.inner(n)
	case api.NCall:
		return c.call(n)
	case api.NRec:
		return c.record(n)
	case api.NSel:
		return c.field(n)
	case api.NWith:
		return c.changed(n)
	case api.NIf:
		return c.choice(n)
	case api.NAs:
		return c.taken(n)
	case api.NOp:
		return c.operation(n)
	}
	return c.ofOne(n)
}

// ofOne is what has one Kid, and the same type whatever that is.
func (c *checker) ofOne(n *api.Node) (api.Core, api.Type) {
	switch n.Kind {
	case api.NIs:
		return numbered(api.CIs, n.N, c.expr(&n.Kids[0]).core), plain(api.TBool)
	case api.NNot:
		return core(api.CNot, c.coerced(&n.Kids[0], plain(api.TBool))), plain(api.TBool)
	case api.NNeg:
		return core(api.CNeg, c.coerced(&n.Kids[0], plain(api.TInt))), plain(api.TInt)
	case api.NPrint:
		return core(api.CPrint, c.expr(&n.Kids[0]).core), plain(api.TNull)
	}
	panic(noTree)
}

func (c *checker) let(n *api.Node) (api.Core, api.Type) {
	e := c.expr(&n.Kids[0])
	if len(n.Types) > 0 {
		is := c.resolved(n, n.Types[0])
		e.core, e.is = c.coerce(e, is), is
	}
	rest := c.within(n.Text, e.is, &n.Kids[1])
	return core(api.CLet, e.core, rest.core), rest.is
}

// inner is a function that is an expression. Both its types are resolved ahead of its body's being gone through.
func (c *checker) inner(n *api.Node) (api.Core, api.Type) {
	kept := make([]api.Type, len(n.Types))
	for i, t := range n.Types {
		kept[i] = c.resolved(n, t)
	}
	body := c.within(n.Text, kept[0], &n.Kids[0])
	if len(kept) > 1 {
		body.core, body.is = c.coerce(body, kept[1]), kept[1]
	}
	return core(api.CFn, body.core), c.made(n, functionType(kept[0], body.is))
}

func (c *checker) call(n *api.Node) (api.Core, api.Type) {
	e := c.expr(&n.Kids[0])
	switch e.is.Kind {
	case api.TAny:
		e = c.castAt(n, e, functionType(plain(api.TAny), plain(api.TAny)))
	case api.TFun:
	default:
		panic(wrong(c.placeOf(n), api.ErrCall))
	}
	given := c.coerced(&n.Kids[1], e.is.Kids[0])
	return core(api.CCall, e.core, given), e.is.Kids[1]
}
