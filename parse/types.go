package parse

import "gradus/api"

// fullType is the rule `type`.
func (p *parser) fullType() api.Type {
	return within(p, (*parser).arrow)
}

func (p *parser) arrow() api.Type {
	t := p.alt()
	if !p.take("->") {
		return t
	}
	return api.Type{Kind: api.TFun, Kids: []api.Type{t, p.fullType()}}
}

func (p *parser) alt() api.Type {
	kids := list(p, "|", (*parser).prim)
	if len(kids) == 1 {
		return kids[0]
	}
	return api.Type{Kind: api.TUnion, Kids: kids}
}

func (p *parser) prim() api.Type {
	// The words stand as api numbers the kinds.
	if kind := p.which("any", "null", "bool", "int", "str"); kind >= 0 {
		p.pass()
		return api.Type{Kind: kind}
	}
	if p.take("{") {
		names, kids := fields(p, (*parser).fullType)
		return api.Type{Kind: api.TRec, Names: names, Kids: kids}
	}
	if p.take("(") {
		t := p.fullType()
		p.must(")")
		return t
	}
	return api.Type{Kind: api.TVar, Name: p.name()}
}

// typeBehind is any, and false, where the sign does not stand.
func (p *parser) typeBehind(sign string) (api.Type, bool) {
	if !p.take(sign) {
		return api.Type{Kind: api.TAny}, false
	}
	return p.fullType(), true
}
