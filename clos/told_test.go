package clos

import (
	"fmt"
	"reflect"
	"strings"
	"testing"

	"gradus/api"
	"gradus/check"
	"gradus/coerce"
	"gradus/link"
	"gradus/parse"
	"gradus/types"
)

// whole tells all of a value, lists that are nil and empty ones alike.
func whole(v any) string {
	var out strings.Builder
	write(&out, reflect.ValueOf(v))
	return out.String()
}

func write(out *strings.Builder, v reflect.Value) {
	switch v.Kind() {
	case reflect.Struct:
		out.WriteString("{")
		for i := range v.NumField() {
			if f := v.Field(i); !f.IsZero() && (f.Kind() != reflect.Slice || f.Len() > 0) {
				out.WriteString(" " + v.Type().Field(i).Name + ":")
				write(out, f)
			}
		}
		out.WriteString("}")
	case reflect.Slice:
		out.WriteString("[")
		for i := range v.Len() {
			write(out, v.Index(i))
			out.WriteString(" ")
		}
		out.WriteString("]")
	case reflect.String:
		fmt.Fprintf(out, "%q", v.String())
	default:
		fmt.Fprint(out, v.Interface())
	}
}

// same tells whether two values are the same in all, nil and empty lists being one.
func same(a, b any) bool { return whole(a) == whole(b) }

// Cores that are made by hand.

func core(kind int, kids ...api.Core) api.Core { return api.Core{Kind: kind, Kids: kids} }

func numbered(kind, n int, kids ...api.Core) api.Core {
	return api.Core{Kind: kind, N: n, Kids: kids}
}

func num(n int) api.Core            { return numbered(api.CInt, n) }
func str(s string) api.Core         { return api.Core{Kind: api.CStr, Text: s} }
func vari(n int) api.Core           { return numbered(api.CVar, n) }
func fn(body api.Core) api.Core     { return core(api.CFn, body) }
func let(e, rest api.Core) api.Core { return core(api.CLet, e, rest) }
func call(f, a api.Core) api.Core   { return core(api.CCall, f, a) }

func makes(n int, ints ...int) api.Core {
	return api.Core{Kind: api.CMake, N: n, Ints: ints}
}

// list is a record of some cores.
func list(kids ...api.Core) api.Core {
	c := core(api.CRec, kids...)
	for i := range kids {
		c.Names = append(c.Names, fmt.Sprint("k", i))
	}
	return c
}

func cast(site int, from, to string, kid api.Core) api.Core {
	return api.Core{Kind: api.CCast, N: site, Types: []api.Type{typ(from), typ(to)}, Kids: []api.Core{kid}}
}

func on(c api.Co, kid api.Core) api.Core {
	return api.Core{Kind: api.CCo, Cos: []api.Co{c}, Kids: []api.Core{kid}}
}

// made is the coercion of a cast.
func made(from, to string, label int) api.Co { return coerce.Make(typ(from), typ(to), label) }

// typ is the normal type of a text.
func typ(s string) api.Type {
	t, d := parse.Type(s)
	kept, e := types.Norm(t)
	if d.E != api.OK || e != api.OK {
		panic(fmt.Sprint(s, d, e))
	}
	return kept
}

// byHand is a program of these bodies, whose functions are called main.f0, main.f1 and so on.
func byHand(bodies ...api.Core) api.Program {
	p := api.Program{Sites: []api.Site{{Line: 1, Col: 14}}}
	for i, b := range bodies {
		p.Funs = append(p.Funs, api.Fun{Name: fmt.Sprint("main.f", i), Type: typ("any -> any"), Body: b})
	}
	return p
}

// Programs of texts.

// sources are modules, each a name, `:: ` and the text; without a name it is main.
func sources(texts ...string) []api.Source {
	var l []api.Source
	for _, s := range texts {
		name, text, named := strings.Cut(s, ":: ")
		if !named {
			name, text = "main", s
		}
		l = append(l, api.Source{Name: name, Text: text})
	}
	return l
}

func program(t *testing.T, texts ...string) api.Program {
	t.Helper()
	l, d := link.Link(sources(texts...))
	p, e := check.Check(l)
	if len(d)+len(e) > 0 {
		t.Fatal(texts, d, e)
	}
	return p
}

// each hands on all cores that stand in one, the innermost first.
func each(c *api.Core, look func(*api.Core)) {
	for i := range c.Kids {
		each(&c.Kids[i], look)
	}
	look(c)
}

// brief tells a core in short: a coercion is `[kid]`, a cast `(site: kid)`.
func brief(c api.Core) string {
	kids := make([]string, len(c.Kids))
	for i, kid := range c.Kids {
		kids[i] = brief(kid)
	}
	within := strings.Join(kids, ", ")
	switch c.Kind {
	case api.CInt:
		return fmt.Sprint(c.N)
	case api.CStr:
		return fmt.Sprintf("%q", c.Text)
	case api.CVar:
		return fmt.Sprint("v", c.N)
	case api.CGlobal:
		return fmt.Sprint("g", c.N)
	case api.CMake:
		return fmt.Sprintf("make%d%d", c.N, c.Ints)
	case api.CCo:
		return "[" + within + "]"
	case api.CCast:
		return fmt.Sprintf("(%d: %s)", c.N, within)
	case api.CRec:
		for i, name := range c.Names {
			kids[i] = name + ": " + kids[i]
		}
		return "{" + strings.Join(kids, ", ") + "}"
	case api.CSel:
		return within + "." + c.Text
	case api.CWith:
		return "with " + c.Text + "(" + within + ")"
	case api.CNull, api.CRead:
		return names()[c.Kind]
	}
	return names()[c.Kind] + "(" + within + ")"
}

func names() []string {
	return strings.Fields("int str bool null var fn global call rec sel with if is op eq cat not neg let print read cast co make")
}

// short tells flat functions in short, each its name, how many it captures, and its body.
func short(l []api.Flat) []string {
	var out []string
	for _, f := range l {
		out = append(out, fmt.Sprint(f.Name, "/", f.Caps, " = ", brief(f.Body)))
	}
	return out
}

// holdFlats holds what becomes of a program, in short, line by line.
func holdFlats(t *testing.T, p api.Program, want ...string) {
	t.Helper()
	got := strings.Join(short(Convert(p)), "\n")
	if w := strings.Join(want, "\n"); got != w {
		t.Errorf("%s\ngot:\n%s\nwant:\n%s", whole(p), got, w)
	}
}

func holdText(t *testing.T, text string, want ...string) {
	t.Helper()
	holdFlats(t, program(t, text), want...)
}
