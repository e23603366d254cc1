package flat

import (
	"fmt"
	"slices"
	"strings"
	"testing"

	"gradus/api"
	"gradus/check"
	"gradus/clos"
	"gradus/link"
	"gradus/norm"
	"gradus/parse"
	"gradus/run"
	"gradus/types"
)

// plenty is fuel that is enough for all but those programs that go on for ever.
const plenty = 1000

// told is a trace as text: its lines, and how it ended. What says nothing where it ended so must be nought.
func told(tr api.Trace) string {
	end, n, text := "", tr.N, tr.Text
	switch tr.End {
	case api.EndDone:
		end, text = "done "+text, ""
	case api.EndBlame:
		end, n = fmt.Sprint("blame ", n), 0
	case api.EndTrap:
		end, n = fmt.Sprint("trap ", n), 0
	case api.EndFuel:
		end = "fuel"
	case api.EndMemory:
		end = "memory"
	case api.EndStuck:
		end = "stuck"
	default:
		end = fmt.Sprint("end ", tr.End)
	}
	if n != 0 || text != "" {
		end += fmt.Sprint(" beside ", n, " and ", text)
	}
	return strings.Join(append(slices.Clone(tr.Lines), end), "; ")
}

func same(a, b api.Trace) bool {
	return slices.Equal(a.Lines, b.Lines) && a.End == b.End && a.N == b.N && a.Text == b.Text
}

// Programs of texts.

// sources are modules, each a name, `:: ` and the text; without a name it is main.
func sources(texts ...string) []api.Source {
	var l []api.Source
	for _, s := range texts {
		name, text, named := strings.Cut(s, ":: ")
		if !named {
			name, text = "main", s
		}
		l = append(l, api.Source{Name: name, Text: text})
	}
	return l
}

// unmark takes the marks out of texts, `@` and a digit ahead of a place, and tells of the places.
func unmark(l []api.Source) ([]api.Source, map[api.Site]string) {
	var out []api.Source
	places := map[api.Site]string{}
	for m, s := range l {
		text, rest, there := strings.Cut(s.Text, "@")
		for there {
			at := api.Site{Module: m, Line: 1 + strings.Count(text, "\n"), Col: len(text) - strings.LastIndex(text, "\n")}
			places[at] = rest[:1]
			var more string
			more, rest, there = strings.Cut(rest[1:], "@")
			text += more
		}
		out = append(out, api.Source{Name: s.Name, Text: text})
	}
	return out, places
}

func checked(t *testing.T, l []api.Source) api.Program {
	t.Helper()
	linked, d := link.Link(l)
	p, e := check.Check(linked)
	if len(d)+len(e) > 0 {
		t.Fatal(l, d, e)
	}
	return p
}

func program(t *testing.T, texts ...string) api.Program {
	t.Helper()
	return checked(t, sources(texts...))
}

// forms are what becomes of a program with casts, with coercions, and with these trimmed.
func forms(p api.Program) [3][]api.Flat {
	return [3][]api.Flat{clos.Convert(p), clos.Convert(norm.Norm(p, false)), clos.Convert(norm.Norm(p, true))}
}

// holdTold holds what a program tells with the numbers 5, -6, 7 to read, in each of its forms: `blame own 1` is of the
// site that is marked by @1.
func holdTold(t *testing.T, fuel int, want string, texts ...string) {
	t.Helper()
	l, places := unmark(sources(texts...))
	p := checked(t, l)
	input := []int{5, -6, 7}
	plain := run.Run(p, input, fuel)
	for form, flats := range forms(p) {
		tr := Run(flats, p.Main, input, fuel)
		if !same(tr, plain) {
			t.Errorf("%s, with the fuel %d, form %d:\ngot  %s\nrun  %s", texts, fuel, form, told(tr), told(plain))
		}
		got := told(tr)
		if tr.End == api.EndBlame {
			site := p.Sites[tr.N/2-1]
			mark, marked := places[site]
			if !marked {
				mark = fmt.Sprint(site)
			}
			got = strings.TrimSuffix(got, fmt.Sprint(tr.N)) + []string{"own ", "other "}[tr.N%2] + mark
		}
		if got != want {
			t.Errorf("%s, with the fuel %d, form %d:\ngot  %s\nwant %s", texts, fuel, form, got, want)
		}
	}
}

// runs is a program's text, and what it tells.
type runs struct{ text, want string }

func holdRuns(t *testing.T, cases ...runs) {
	t.Helper()
	for _, c := range cases {
		holdTold(t, plenty, c.want, c.text)
	}
}

// Cores that are made by hand.

func core(kind int, kids ...api.Core) api.Core { return api.Core{Kind: kind, Kids: kids} }

func numbered(kind, n int, kids ...api.Core) api.Core {
	return api.Core{Kind: kind, N: n, Kids: kids}
}

func named(kind int, text string, kids ...api.Core) api.Core {
	return api.Core{Kind: kind, Text: text, Kids: kids}
}

func num(n int) api.Core                                { return numbered(api.CInt, n) }
func str(s string) api.Core                             { return named(api.CStr, s) }
func boolean(n int) api.Core                            { return numbered(api.CBool, n) }
func nothing() api.Core                                 { return core(api.CNull) }
func variable(n int) api.Core                           { return numbered(api.CVar, n) }
func global(n int) api.Core                             { return numbered(api.CGlobal, n) }
func call(f, a api.Core) api.Core                       { return core(api.CCall, f, a) }
func let(e, rest api.Core) api.Core                     { return core(api.CLet, e, rest) }
func print(e api.Core) api.Core                         { return core(api.CPrint, e) }
func sel(e api.Core, name string) api.Core              { return named(api.CSel, name, e) }
func with(e api.Core, name string, f api.Core) api.Core { return named(api.CWith, name, e, f) }
func sub(a, b api.Core) api.Core                        { return numbered(api.COp, api.OpSub, a, b) }

func makes(n int, ints ...int) api.Core { return api.Core{Kind: api.CMake, N: n, Ints: ints} }

// rec is a record of names with a blank between two.
func rec(names string, kids ...api.Core) api.Core {
	return api.Core{Kind: api.CRec, Names: strings.Fields(names), Kids: kids}
}

// say is an expression that tells the number ahead of being run. It must not have variables.
func say(n int, e api.Core) api.Core { return let(print(num(n)), e) }

func cast(site int, from, to string, e api.Core) api.Core {
	return api.Core{Kind: api.CCast, N: site, Types: []api.Type{typ(from), typ(to)}, Kids: []api.Core{e}}
}

// coerced is an expression behind which coercions are applied, the first one first.
func coerced(e api.Core, list ...api.Co) api.Core {
	for _, c := range list {
		e = api.Core{Kind: api.CCo, Cos: []api.Co{c}, Kids: []api.Core{e}}
	}
	return e
}

// typ is the normal type of a text.
func typ(s string) api.Type {
	t, d := parse.Type(s)
	kept, e := types.Norm(t)
	if d.E != api.OK || e != api.OK {
		panic(fmt.Sprint(s, d, e))
	}
	return kept
}

// byHand are functions of these bodies, the first of which is the main one. Their Caps are those of the CMakes of them.
func byHand(bodies ...api.Core) []api.Flat {
	var l []api.Flat
	for i, b := range bodies {
		l = append(l, api.Flat{Name: fmt.Sprint("main.f", i), Body: b})
	}
	for i := range l {
		each(l[i].Body, func(c api.Core) {
			if c.Kind == api.CMake && c.N >= 0 && c.N < len(l) {
				l[c.N].Caps = len(c.Ints)
			}
		})
	}
	return l
}

// each hands on all cores that stand in one.
func each(c api.Core, look func(api.Core)) {
	look(c)
	for _, kid := range c.Kids {
		each(kid, look)
	}
}

// cores is what a main function's body tells, with other bodies behind it.
type cores struct {
	want   string
	bodies []api.Core
}

// tells is put together for a table.
func tells(want string, bodies ...api.Core) cores { return cores{want, bodies} }

// holdCores holds what is told with the numbers 5, -6, 7 to read.
func holdCores(t *testing.T, cases ...cores) {
	t.Helper()
	for i, c := range cases {
		if got := told(Run(byHand(c.bodies...), 0, []int{5, -6, 7}, plenty)); got != c.want {
			t.Errorf("%d: %v:\ngot  %s\nwant %s", i, c.bodies, got, c.want)
		}
	}
}
