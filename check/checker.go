package check

import (
	"gradus/api"
	"gradus/rel"
	"gradus/types"
)

// checker is one function's. Where something is wrong it gives up by a panic with the Diag.
type checker struct {
	program *program
	own     function
	scope   scope
	left    int // how many expressions there may be yet
}

// typed is what has become of an expression: its core, its type and its place.
type typed struct {
	core api.Core
	is   api.Type
	at   api.Site
}

// checkerOf is the checker of a function: called, it tells what has become of that.
func (p *program) checkerOf(n int) func() api.Fun {
	// An expression has a token of its own, so that no function of a text has more of them.
	c := &checker{program: p, own: p.funs[n], left: api.MaxTokens}
	return func() api.Fun {
		f := &c.own
		at := c.place(f.written.Line, f.written.Col)
		if f.e != api.OK {
			panic(wrong(at, f.e))
		}
		takes, answers := f.is.Kids[0], f.is.Kids[1]
		if n == p.mainNumber() && !rel.Fits(plain(api.TNull), takes) {
			panic(wrong(at, api.ErrMain))
		}
		body := c.coerce(c.within(f.written.Param, takes, &f.written.Body), answers)
		return api.Fun{Name: p.nameOf(f), Type: ownType(f.is), Body: body}
	}
}

func (c *checker) place(line, col int) api.Site {
	return api.Site{Module: c.own.from.module, Line: line, Col: col}
}

func (c *checker) placeOf(n *api.Node) api.Site {
	return c.place(n.Line, n.Col)
}

// inScope is the function of that name in the module's scope.
func (c *checker) inScope(name string) (origin, bool) {
	from, there := c.program.scopes[c.own.from.module][name]
	return from, there
}

// within goes through an expression with one more variable in scope.
func (c *checker) within(name string, is api.Type, n *api.Node) typed {
	c.scope = append(c.scope, variable{name, is})
	e := c.expr(n)
	c.scope = c.scope[:len(c.scope)-1]
	return e
}

// coerced goes through an expression, and takes it as one of that type.
func (c *checker) coerced(n *api.Node, to api.Type) api.Core {
	return c.coerce(c.expr(n), to)
}

func (c *checker) coerce(e typed, to api.Type) api.Core {
	switch {
	case rel.Sub(e.is, to):
		return e.core
	case rel.Fits(e.is, to):
		return cast(e.core, e.is, to, c.program.addSite(e.at))
	}
	panic(wrong(e.at, api.ErrMatch))
}

// castAt casts an expression at the place of the one that it stands in.
func (c *checker) castAt(n *api.Node, e typed, to api.Type) typed {
	e.core, e.is = cast(e.core, e.is, to, c.program.addSite(c.placeOf(n))), to
	return e
}

// resolved is a type that is written in an expression.
func (c *checker) resolved(n *api.Node, t api.Type) api.Type {
	kept, e := c.own.resolve(t)
	if e != api.OK {
		panic(wrong(c.placeOf(n), e))
	}
	return kept
}

// made is the type of an expression, which may have become too great.
func (c *checker) made(n *api.Node, t api.Type) api.Type {
	kept, e := types.Norm(t)
	if e != api.OK {
		panic(wrong(c.placeOf(n), e))
	}
	return kept
}
