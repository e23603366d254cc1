package norm

import (
	"fmt"
	"reflect"
	"slices"
	"strings"
	"testing"

	"gradus/api"
	"gradus/check"
	"gradus/coerce"
	"gradus/link"
	"gradus/parse"
	"gradus/types"
)

// whole tells all of a value, lists that are nil and empty ones alike.
func whole(v any) string {
	var out strings.Builder
	write(&out, reflect.ValueOf(v))
	return out.String()
}

func write(out *strings.Builder, v reflect.Value) {
	switch v.Kind() {
	case reflect.Struct:
		out.WriteString("{")
		for i := range v.NumField() {
			if f := v.Field(i); !f.IsZero() && (f.Kind() != reflect.Slice || f.Len() > 0) {
				out.WriteString(" " + v.Type().Field(i).Name + ":")
				write(out, f)
			}
		}
		out.WriteString("}")
	case reflect.Slice:
		out.WriteString("[")
		for i := range v.Len() {
			write(out, v.Index(i))
			out.WriteString(" ")
		}
		out.WriteString("]")
	case reflect.String:
		fmt.Fprintf(out, "%q", v.String())
	default:
		fmt.Fprint(out, v.Interface())
	}
}

// same tells whether two values are the same in all, nil and empty lists being one.
func same(a, b any) bool { return whole(a) == whole(b) }

// Cores that are made by hand.

func core(kind int, kids ...api.Core) api.Core { return api.Core{Kind: kind, Kids: kids} }

func numbered(kind, n int, kids ...api.Core) api.Core {
	return api.Core{Kind: kind, N: n, Kids: kids}
}

func num(n int) api.Core            { return numbered(api.CInt, n) }
func str(s string) api.Core         { return api.Core{Kind: api.CStr, Text: s} }
func variable(n int) api.Core       { return numbered(api.CVar, n) }
func fn(body api.Core) api.Core     { return core(api.CFn, body) }
func let(e, rest api.Core) api.Core { return core(api.CLet, e, rest) }
func on(c api.Co, kid api.Core) api.Core {
	return api.Core{Kind: api.CCo, Cos: []api.Co{c}, Kids: []api.Core{kid}}
}

func cast(site int, from, to string, kid api.Core) api.Core {
	return api.Core{Kind: api.CCast, N: site, Types: []api.Type{typ(from), typ(to)}, Kids: []api.Core{kid}}
}

// chain is a core with coercions around it, the first of which is the innermost one.
func chain(kid api.Core, list ...api.Co) api.Core {
	for _, c := range list {
		kid = on(c, kid)
	}
	return kid
}

// typ is the normal type of a text.
func typ(s string) api.Type {
	t, d := parse.Type(s)
	kept, e := types.Norm(t)
	if d.E != api.OK || e != api.OK {
		panic(fmt.Sprint(s, d, e))
	}
	return kept
}

// Coercions that are made by hand.

// tags is one with just these labels, and noughts behind them.
func tags(labels ...int) api.Co {
	return api.Co{Tags: append(labels, make([]int, api.Tags-len(labels))...)}
}

// blames is one with the label for one tag, butFor with the label for all the others.
func blames(tag, label int) api.Co {
	c := coerce.Id()
	c.Tags[tag] = label
	return c
}

func butFor(tag, label int) api.Co {
	c := tags(label, label, label, label, label, label)
	c.Tags[tag] = 0
	return c
}

func needs(name string, label int) api.Co {
	return api.Co{Tags: tags().Tags, Needs: []api.Need{{Name: name, Label: label}}}
}

func onField(name string, c api.Co) api.Co {
	return api.Co{Tags: tags().Tags, Names: []string{name}, Fields: []api.Co{c}}
}

func onFun(takes, answers api.Co) api.Co {
	return api.Co{Tags: tags().Tags, Fun: []api.Co{takes, answers}}
}

// byHand is a program of these bodies.
func byHand(bodies ...api.Core) api.Program {
	p := api.Program{Sites: []api.Site{{Line: 1, Col: 14}}}
	for i, b := range bodies {
		p.Funs = append(p.Funs, api.Fun{Name: fmt.Sprint("main.f", i), Type: typ("any -> any"), Body: b})
	}
	return p
}

// holdBody holds what becomes of a body, which stands in the second function of a program.
func holdBody(t *testing.T, trim bool, body, want api.Core) {
	t.Helper()
	p := byHand(num(1), body, variable(0))
	if got := Norm(p, trim); !same(got, byHand(num(1), want, variable(0))) {
		t.Errorf("%s\nwith %v\ngot  %s\nwant %s", whole(body), trim, whole(got), whole(want))
	}
}

// Programs of texts.

// sources are modules, each a name, `:: ` and the text; without a name it is main.
func sources(texts ...string) []api.Source {
	var l []api.Source
	for _, s := range texts {
		name, text, named := strings.Cut(s, ":: ")
		if !named {
			name, text = "main", s
		}
		l = append(l, api.Source{Name: name, Text: text})
	}
	return l
}

func program(t *testing.T, texts ...string) api.Program {
	t.Helper()
	l, d := link.Link(sources(texts...))
	p, e := check.Check(l)
	if len(d)+len(e) > 0 {
		t.Fatal(texts, d, e)
	}
	return p
}

// body is that of the function of a name.
func body(t *testing.T, p api.Program, name string) api.Core {
	t.Helper()
	at := slices.IndexFunc(p.Funs, func(f api.Fun) bool { return f.Name == name })
	if at < 0 {
		t.Fatal(name, whole(p))
	}
	return p.Funs[at].Body
}

// each hands on all cores that stand in one, the innermost first.
func each(c *api.Core, look func(*api.Core)) {
	for i := range c.Kids {
		each(&c.Kids[i], look)
	}
	look(c)
}

// count tells how many cores of a kind there are in a program.
func count(p api.Program, kind int) int {
	n := 0
	for i := range p.Funs {
		each(&p.Funs[i].Body, func(c *api.Core) {
			if c.Kind == kind {
				n++
			}
		})
	}
	return n
}
