package parse

import (
	"gradus/api"
	"gradus/word"
)

func (p *parser) expr() api.Node {
	return within(p, (*parser).exprHere)
}

func (p *parser) exprHere() api.Node {
	switch {
	case p.is("let"):
		return p.let()
	case p.is("if"):
		return p.choice()
	case p.is("fn"):
		return p.function()
	}
	return p.or()
}

func (p *parser) let() api.Node {
	token := p.must("let")
	n := placed(token, api.Node{Kind: api.NLet, Text: p.name()})
	if t, ok := p.typeBehind(":"); ok {
		n.Types = []api.Type{t}
	}
	p.must("=")
	is := p.expr()
	p.must(";")
	n.Kids = []api.Node{is, p.expr()}
	return n
}

func (p *parser) choice() api.Node {
	token := p.must("if")
	asked := p.expr()
	p.must("then")
	yes := p.expr()
	p.must("else")
	return placed(token, api.Node{Kind: api.NIf, Kids: []api.Node{asked, yes, p.expr()}})
}

func (p *parser) function() api.Node {
	token := p.must("fn")
	name, takes := p.param()
	types := []api.Type{takes}
	if answers, ok := p.typeBehind(":"); ok {
		types = append(types, answers)
	}
	p.must("=>")
	return placed(token, api.Node{Kind: api.NFn, Text: name, Types: types, Kids: []api.Node{p.expr()}})
}

func (p *parser) or() api.Node {
	return p.rank((*parser).and, "or")
}

func (p *parser) and() api.Node {
	return p.rank((*parser).cmp, "and")
}

func (p *parser) cmp() api.Node {
	left := p.cat()
	switch {
	case p.is("<", "<=", "=="):
		token := p.pass()
		return operation(token, left, p.cat())
	case p.is("is"):
		token := p.pass()
		return placed(token, api.Node{Kind: api.NIs, N: p.tag(), Kids: []api.Node{left}})
	case p.is("as"):
		token := p.pass()
		return placed(token, api.Node{Kind: api.NAs, Types: []api.Type{p.fullType()}, Kids: []api.Node{left}})
	}
	return left
}

func (p *parser) tag() int {
	// The words stand as api numbers the tags.
	tag := p.which("null", "bool", "int", "str", "record", "function")
	if tag < 0 {
		panic(p.wrong(api.ErrToken))
	}
	p.pass()
	return tag
}

func (p *parser) cat() api.Node {
	return p.rank((*parser).sum, "++")
}

func (p *parser) sum() api.Node {
	return p.rank((*parser).term, "+", "-", "^")
}

func (p *parser) term() api.Node {
	return p.rank((*parser).unary, "*", "/", "%", "&", "<<", ">>")
}

// rank reads operations of one rank, which come from the left.
func (p *parser) rank(operand func(*parser) api.Node, ops ...string) api.Node {
	n := operand(p)
	for p.is(ops...) {
		token := p.pass()
		n = operation(token, n, operand(p))
	}
	return n
}

func operation(token api.Token, left, right api.Node) api.Node {
	return placed(token, api.Node{Kind: api.NOp, Text: token.Text, Kids: []api.Node{left, right}})
}

func (p *parser) unary() api.Node {
	return within(p, (*parser).unaryHere)
}

func (p *parser) unaryHere() api.Node {
	switch {
	case p.is("-"):
		token := p.pass()
		return placed(token, api.Node{Kind: api.NNeg, Kids: []api.Node{p.unary()}})
	case p.is("not"):
		token := p.pass()
		return placed(token, api.Node{Kind: api.NNot, Kids: []api.Node{p.unary()}})
	}
	return p.post()
}

func (p *parser) post() api.Node {
	n := p.atom()
	for {
		token := p.peek()
		switch {
		case p.is("("):
			n = placed(token, api.Node{Kind: api.NCall, Kids: []api.Node{n, p.inBrackets()}})
		case p.take("."):
			n = placed(token, api.Node{Kind: api.NSel, Text: p.name(), Kids: []api.Node{n}})
		default:
			return n
		}
	}
}

func (p *parser) atom() api.Node {
	token := p.peek()
	switch {
	case p.is("true", "false", "null"):
		return p.constant()
	case p.take("print"):
		return placed(token, api.Node{Kind: api.NPrint, Kids: []api.Node{p.inBrackets()}})
	case p.take("read"):
		p.must("(")
		p.must(")")
		return placed(token, api.Node{Kind: api.NRead})
	case p.is("("):
		return p.inBrackets()
	case p.take("{"):
		return placed(token, p.inBraces())
	}
	return p.spelt()
}

func (p *parser) constant() api.Node {
	token := p.pass()
	switch token.Text {
	case "true":
		return placed(token, api.Node{Kind: api.NBool, N: 1})
	case "false":
		return placed(token, api.Node{Kind: api.NBool})
	}
	return placed(token, api.Node{Kind: api.NNull})
}

// spelt reads what is told by the token's kind.
func (p *parser) spelt() api.Node {
	switch token := p.peek(); token.Kind {
	case api.TokNumber:
		p.pass()
		n, _ := word.Parse(token.Text)
		return placed(token, api.Node{Kind: api.NInt, N: n})
	case api.TokString:
		p.pass()
		return placed(token, api.Node{Kind: api.NStr, Text: token.Text})
	case api.TokName:
		return p.named()
	}
	panic(p.wrong(api.ErrToken))
}

func (p *parser) named() api.Node {
	token := p.pass()
	if !p.take("[") {
		return placed(token, api.Node{Kind: api.NName, Text: token.Text})
	}
	types := list(p, ",", (*parser).fullType)
	p.must("]")
	return placed(token, api.Node{Kind: api.NInst, Text: token.Text, Types: types})
}

func (p *parser) inBrackets() api.Node {
	p.must("(")
	n := p.expr()
	p.must(")")
	return n
}

// inBraces reads what stands behind a `{`.
func (p *parser) inBraces() api.Node {
	if p.is("}") || p.beginsField() {
		names, kids := fields(p, (*parser).expr)
		return api.Node{Kind: api.NRec, Names: names, Kids: kids}
	}
	record := p.expr()
	p.must("with")
	name := p.name()
	p.must(":")
	field := p.expr()
	p.must("}")
	return api.Node{Kind: api.NWith, Text: name, Kids: []api.Node{record, field}}
}

func placed(token api.Token, n api.Node) api.Node {
	n.Line, n.Col = token.Line, token.Col
	return n
}
