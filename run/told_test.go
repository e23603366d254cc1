package run

import (
	"fmt"
	"slices"
	"strings"
	"testing"

	"gradus/api"
	"gradus/check"
	"gradus/link"
	"gradus/parse"
	"gradus/types"
)

// plenty is fuel that is enough for all but those programs that go on for ever.
const plenty = 1000

// sources are modules, each a name, `:: ` and the text; without a name it is main.
func sources(texts ...string) []api.Source {
	var l []api.Source
	for _, s := range texts {
		name, text, named := strings.Cut(s, ":: ")
		if !named {
			name, text = "main", s
		}
		l = append(l, api.Source{Name: name, Text: text})
	}
	return l
}

// marks are places that are marked in texts: `@` and a digit stand ahead of them.
type marks map[api.Site]string

func unmark(l []api.Source) ([]api.Source, marks) {
	var out []api.Source
	places := marks{}
	for m, s := range l {
		before, rest, there := strings.Cut(s.Text, "@")
		text := before
		for there {
			at := api.Site{Module: m, Line: 1 + strings.Count(text, "\n"), Col: len(text) - strings.LastIndex(text, "\n")}
			places[at] = rest[:1]
			before, rest, there = strings.Cut(rest[1:], "@")
			text += before
		}
		out = append(out, api.Source{Name: s.Name, Text: text})
	}
	return out, places
}

func checked(t *testing.T, l []api.Source) api.Program {
	t.Helper()
	linked, d := link.Link(l)
	p, e := check.Check(linked)
	if len(d)+len(e) > 0 {
		t.Fatal(l, d, e)
	}
	return p
}

func program(t *testing.T, texts ...string) api.Program {
	t.Helper()
	return checked(t, sources(texts...))
}

// told is a trace as text: its lines, and how it ended. What says nothing where it ended so must be nought.
func told(tr api.Trace) string {
	end, n, text := "", tr.N, tr.Text
	switch tr.End {
	case api.EndDone:
		end, text = "done "+text, ""
	case api.EndBlame:
		end, n = fmt.Sprint("blame ", n), 0
	case api.EndTrap:
		end, n = fmt.Sprint("trap ", n), 0
	case api.EndFuel:
		end = "fuel"
	case api.EndMemory:
		end = "memory"
	case api.EndStuck:
		end = "stuck"
	default:
		end = fmt.Sprint("end ", tr.End)
	}
	if n != 0 || text != "" {
		end += fmt.Sprint(" beside ", n, " and ", text)
	}
	return strings.Join(append(slices.Clone(tr.Lines), end), "; ")
}

// runs is a program's text, and what it tells with the numbers 5, -6, 7 to read: `blame own 1` is of the site that is
// marked by @1.
type runs struct{ text, want string }

func holdRuns(t *testing.T, cases ...runs) {
	t.Helper()
	for _, c := range cases {
		holdTold(t, plenty, c.want, c.text)
	}
}

func holdTold(t *testing.T, fuel int, want string, texts ...string) {
	t.Helper()
	l, places := unmark(sources(texts...))
	p := checked(t, l)
	tr := Run(p, []int{5, -6, 7}, fuel)
	got := told(tr)
	if tr.End == api.EndBlame {
		side := []string{"own", "other"}[tr.N%2]
		site := p.Sites[tr.N/2-1]
		mark, marked := places[site]
		if !marked {
			mark = fmt.Sprint(site)
		}
		got = strings.TrimSuffix(got, fmt.Sprint(tr.N)) + side + " " + mark
	}
	if got != want {
		t.Errorf("%s, with the fuel %d:\ngot  %s\nwant %s", texts, fuel, got, want)
	}
}

// Cores that are made by hand.

func core(kind int, kids ...api.Core) api.Core { return api.Core{Kind: kind, Kids: kids} }

func numbered(kind, n int, kids ...api.Core) api.Core {
	return api.Core{Kind: kind, N: n, Kids: kids}
}

func named(kind int, text string, kids ...api.Core) api.Core {
	return api.Core{Kind: kind, Text: text, Kids: kids}
}

func num(n int) api.Core                                { return numbered(api.CInt, n) }
func str(s string) api.Core                             { return named(api.CStr, s) }
func boolean(n int) api.Core                            { return numbered(api.CBool, n) }
func nothing() api.Core                                 { return core(api.CNull) }
func variable(n int) api.Core                           { return numbered(api.CVar, n) }
func global(n int) api.Core                             { return numbered(api.CGlobal, n) }
func fn(body api.Core) api.Core                         { return core(api.CFn, body) }
func call(f, a api.Core) api.Core                       { return core(api.CCall, f, a) }
func let(e, rest api.Core) api.Core                     { return core(api.CLet, e, rest) }
func sel(e api.Core, name string) api.Core              { return named(api.CSel, name, e) }
func with(e api.Core, name string, f api.Core) api.Core { return named(api.CWith, name, e, f) }

// rec is a record of names with a blank between two.
func rec(names string, kids ...api.Core) api.Core {
	return api.Core{Kind: api.CRec, Names: strings.Fields(names), Kids: kids}
}

// say is an expression that tells the number ahead of being run. It must not have variables.
func say(n int, e api.Core) api.Core { return let(core(api.CPrint, num(n)), e) }

func cast(site int, from, to string, e api.Core) api.Core {
	return api.Core{Kind: api.CCast, N: site, Types: []api.Type{typ(from), typ(to)}, Kids: []api.Core{e}}
}

func coerced(c api.Co, e api.Core) api.Core {
	return api.Core{Kind: api.CCo, Cos: []api.Co{c}, Kids: []api.Core{e}}
}

// typ is the normal type of a text.
func typ(s string) api.Type {
	t, d := parse.Type(s)
	kept, e := types.Norm(t)
	if d.E != api.OK || e != api.OK {
		panic(fmt.Sprint(s, d, e))
	}
	return kept
}

// byHand is a program of these bodies, the first of which is the main function's.
func byHand(bodies ...api.Core) api.Program {
	var p api.Program
	for i, b := range bodies {
		p.Funs = append(p.Funs, api.Fun{Name: fmt.Sprint("main.f", i), Type: typ("any -> any"), Body: b})
	}
	return p
}

// cores is an expression, and what it tells as the body of a main function.
type cores struct {
	body api.Core
	want string
}

func holdCores(t *testing.T, cases ...cores) {
	t.Helper()
	for i, c := range cases {
		if got := told(Run(byHand(c.body), []int{5, -6, 7}, plenty)); got != c.want {
			t.Errorf("%d: %v:\ngot  %s\nwant %s", i, c.body, got, c.want)
		}
	}
}
