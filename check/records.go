package check

import (
	"slices"

	"gradus/api"
)

func (c *checker) record(n *api.Node) (api.Core, api.Type) {
	if hasTwice(n.Names) {
		panic(wrong(c.placeOf(n), api.ErrTwice))
	}
	record := api.Core{Kind: api.CRec, Names: slices.Clone(n.Names)}
	is := api.Type{Kind: api.TRec, Names: n.Names}
	for i := range n.Kids {
		e := c.expr(&n.Kids[i])
		record.Kids = append(record.Kids, e.core)
		is.Kids = append(is.Kids, e.is)
	}
	return record, c.made(n, is)
}

func hasTwice(names []string) bool {
	seen := make(map[string]struct{}, len(names))
	for _, name := range names {
		seen[name] = struct{}{}
	}
	return len(seen) < len(names)
}

func (c *checker) field(n *api.Node) (api.Core, api.Type) {
	e := c.expr(&n.Kids[0])
	if e.is.Kind == api.TAny {
		e = c.castAt(n, e, withField(plain(api.TRec), n.Text, plain(api.TAny)))
	}
	// No type but a record's has Names.
	at := slices.Index(e.is.Names, n.Text)
	if at < 0 {
		panic(wrong(c.placeOf(n), api.ErrField))
	}
	return named(api.CSel, n.Text, e.core), e.is.Kids[at]
}

// changed is a record with a field that is new, or another one.
func (c *checker) changed(n *api.Node) (api.Core, api.Type) {
	e := c.expr(&n.Kids[0])
	switch e.is.Kind {
	case api.TAny:
		e = c.castAt(n, e, plain(api.TRec))
	case api.TRec:
	default:
		panic(wrong(c.placeOf(n), api.ErrField))
	}
	f := c.expr(&n.Kids[1])
	return named(api.CWith, n.Text, e.core, f.core), c.made(n, withField(e.is, n.Text, f.is))
}
