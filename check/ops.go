package check

import "gradus/api"

// numberOps has the operations of numbers as they are written.
var numberOps = [api.Ops]string{
	api.OpAdd: "+",
	api.OpSub: "-",
	api.OpMul: "*",
	api.OpDiv: "/",
	api.OpMod: "%",
	api.OpShl: "<<",
	api.OpShr: ">>",
	api.OpAnd: "&",
	api.OpXor: "^",
	api.OpLt:  "<",
	api.OpLe:  "<=",
}

func (c *checker) operation(n *api.Node) (api.Core, api.Type) {
	switch n.Text {
	case "or":
		e, f := c.both(n, api.TBool)
		return core(api.CIf, e, numbered(api.CBool, 1), f), plain(api.TBool)
	case "and":
		e, f := c.both(n, api.TBool)
		return core(api.CIf, e, f, numbered(api.CBool, 0)), plain(api.TBool)
	case "==":
		e := c.expr(&n.Kids[0])
		f := c.expr(&n.Kids[1])
		return core(api.CEq, e.core, f.core), plain(api.TBool)
	case "++":
		e, f := c.both(n, api.TStr)
		return core(api.CCat, e, f), plain(api.TStr)
	}
	return c.ofNumbers(n)
}

func (c *checker) ofNumbers(n *api.Node) (api.Core, api.Type) {
	op := numberOp(n.Text)
	e, f := c.both(n, api.TInt)
	is := plain(api.TInt)
	if op == api.OpLt || op == api.OpLe {
		is = plain(api.TBool)
	}
	return numbered(api.COp, op, e, f), is
}

func numberOp(text string) int {
	for op, written := range numberOps {
		if written == text {
			return op
		}
	}
	panic(noTree)
}

// both coerces one side ahead of the other one's being gone through.
func (c *checker) both(n *api.Node, kind int) (e, f api.Core) {
	e = c.coerced(&n.Kids[0], plain(kind))
	return e, c.coerced(&n.Kids[1], plain(kind))
}
