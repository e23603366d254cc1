package check

import (
	"fmt"
	"reflect"
	"slices"
	"strings"
	"testing"

	"gradus/api"
	"gradus/lex"
	"gradus/link"
	"gradus/parse"
	"gradus/types"
)

// sources makes modules of texts, each with its name and a colon ahead.
func sources(texts ...string) []api.Source {
	var l []api.Source
	for _, s := range texts {
		name, text, _ := strings.Cut(s, ": ")
		l = append(l, api.Source{Name: name, Text: text})
	}
	return l
}

// marks are places that are marked in texts: `@` and a digit stand ahead of them.
type marks map[byte]api.Site

func unmark(l []api.Source) ([]api.Source, marks) {
	var out []api.Source
	places := marks{}
	for m, s := range l {
		before, rest, there := strings.Cut(s.Text, "@")
		text := before
		for there {
			at := api.Site{Module: m, Line: 1 + strings.Count(text, "\n"), Col: len(text) - strings.LastIndex(text, "\n")}
			if _, twice := places[rest[0]]; twice {
				panic(s.Text)
			}
			places[rest[0]] = at
			before, rest, there = strings.Cut(rest[1:], "@")
			text += before
		}
		out = append(out, api.Source{Name: s.Name, Text: text})
	}
	return out, places
}

func linked(t *testing.T, l []api.Source) api.Linked {
	t.Helper()
	l, _ = unmark(l)
	k, d := link.Link(l)
	if len(d) > 0 {
		t.Fatalf("%q: %v", l, d)
	}
	return k
}

func diag(module, line, col int, e api.Errno) api.Diag {
	return api.Diag{Module: module, Line: line, Col: col, E: e}
}

// at is a Diag whose place is marked.
func at(mark byte, e api.Errno) api.Diag { return api.Diag{Module: -int(mark), E: e} }

func (m marks) diags(l []api.Diag) []api.Diag {
	var out []api.Diag
	for _, d := range l {
		if d.Module < 0 {
			d = wrong(m.find(byte(-d.Module)), d.E)
		}
		out = append(out, d)
	}
	return out
}

func (m marks) find(mark byte) api.Site {
	s, there := m[mark]
	if !there {
		panic(fmt.Sprintf("no place %c", mark))
	}
	return s
}

// typ is the normal type of a text.
func typ(s string) api.Type {
	t, d := parse.Type(s)
	kept, e := types.Norm(t)
	if d.E != api.OK || e != api.OK {
		panic(fmt.Sprint(s, d, e))
	}
	return kept
}

// typeText is a normal type's text; of any other thing it tells all.
func typeText(t api.Type) string {
	if s := types.Show(t); s != "" {
		return s
	}
	return fmt.Sprintf("%+v", t)
}

// form is how a core is told: the form's verbs are filled with what the kind has.
type form struct {
	text  string
	kids  int // below 0: as many as there are
	n     bool
	words bool // Text
}

var forms = [api.CKinds]form{
	api.CInt:    {"#", 0, true, false},
	api.CStr:    {"$", 0, false, true},
	api.CBool:   {"bool #", 0, true, false},
	api.CNull:   {"null", 0, false, false},
	api.CVar:    {"v#", 0, true, false},
	api.CFn:     {"(fn @)", 1, false, false},
	api.CGlobal: {"g#", 0, true, false},
	api.CCall:   {"@(@)", 2, false, false},
	api.CRec:    {"{}", -1, false, false},
	api.CSel:    {"@.$", 1, false, true},
	api.CWith:   {"{@ with $: @}", 2, false, true},
	api.CIf:     {"(if @ then @ else @)", 3, false, false},
	api.CIs:     {"(@ is #)", 1, true, false},
	api.COp:     {"(@ op# @)", 2, true, false},
	api.CEq:     {"(@ == @)", 2, false, false},
	api.CCat:    {"(@ ++ @)", 2, false, false},
	api.CNot:    {"(not @)", 1, false, false},
	api.CNeg:    {"(- @)", 1, false, false},
	api.CLet:    {"(let @; @)", 2, false, false},
	api.CPrint:  {"print(@)", 1, false, false},
	api.CRead:   {"read", 0, false, false},
	api.CCast:   {"<# @ : >", 1, true, false},
	api.CCo:     {"?", 0, false, false},
	api.CMake:   {"?", 0, false, false},
}

// coreText tells all of a core: two that have one text are the same, and what a kind may not have is told as stray.
func coreText(c api.Core) string {
	if c.Kind < 0 || c.Kind >= api.CKinds || c.Kind == api.CCo || c.Kind == api.CMake {
		return fmt.Sprintf("stray %+v", c)
	}
	f := forms[c.Kind]
	stray := f.kids >= 0 && len(c.Kids) != f.kids || c.N != 0 && !f.n || c.Text != "" && !f.words ||
		len(c.Ints)+len(c.Cos) > 0 || len(c.Names) > 0 && c.Kind != api.CRec || len(c.Types) > 0 && c.Kind != api.CCast
	if stray || len(c.Names) != len(c.Kids) && c.Kind == api.CRec || len(c.Types) != 2 && c.Kind == api.CCast {
		return fmt.Sprintf("stray %+v", c)
	}
	kids := make([]string, len(c.Kids))
	for i, kid := range c.Kids {
		kids[i] = coreText(kid)
	}
	switch c.Kind {
	case api.CRec:
		for i, name := range c.Names {
			kids[i] = name + ": " + kids[i]
		}
		return "{" + strings.Join(kids, ", ") + "}"
	case api.CCast:
		return castText(c.N, kids[0], c.Types[0], c.Types[1])
	case api.CStr:
		return lex.Quote(c.Text)
	case api.CBool:
		return boolText(c.N)
	}
	return f.fill(kids, c.N, c.Text)
}

func castText(site int, kid string, from, to api.Type) string {
	return fmt.Sprintf("<%d %s => %s: %s>", site, typeText(from), typeText(to), kid)
}

func boolText(n int) string {
	return []string{"false", "true", "stray"}[min(uint(n), 2)]
}

// fill is made so that what is filled in is not looked at again.
func (f form) fill(kids []string, n int, text string) string {
	var s strings.Builder
	for _, r := range f.text {
		switch r {
		case '@':
			s.WriteString(kids[0])
			kids = kids[1:]
		case '#':
			s.WriteString(fmt.Sprint(n))
		case '$':
			s.WriteString(text)
		default:
			s.WriteRune(r)
		}
	}
	return s.String()
}

// funText tells a function of a program.
func funText(f api.Fun) string {
	return f.Name + ": " + typeText(f.Type) + " = " + coreText(f.Body)
}

func siteText(s api.Site) string { return fmt.Sprintf("%d:%d:%d", s.Module, s.Line, s.Col) }

// programText tells all of a program, the number of the main function first and the sites last.
func programText(p api.Program) string {
	lines := []string{fmt.Sprint("main ", p.Main)}
	for _, f := range p.Funs {
		lines = append(lines, funText(f))
	}
	for _, s := range p.Sites {
		lines = append(lines, siteText(s))
	}
	return strings.Join(lines, "\n")
}

// holdProgram has modules checked: want is the lines of programText, where sites may be told by their marks.
func holdProgram(t *testing.T, l []api.Source, want ...string) {
	t.Helper()
	l, places := unmark(l)
	for i, s := range want {
		if strings.HasPrefix(s, "@") {
			want[i] = siteText(places.find(s[1]))
		}
	}
	p, d := Check(linked(t, l))
	if got := programText(p); len(d) > 0 || got != strings.Join(want, "\n") {
		t.Errorf("%q: %v\ngot\n%s\nwant\n%s", l, d, got, strings.Join(want, "\n"))
	}
}

// holdDiags: and there is no program beside them.
func holdDiags(t *testing.T, l []api.Source, want ...api.Diag) {
	t.Helper()
	l, places := unmark(l)
	want = places.diags(want)
	p, d := Check(linked(t, l))
	if !slices.Equal(d, want) {
		t.Errorf("%q:\ngot  %v\nwant %v", l, d, want)
	}
	if !reflect.DeepEqual(p, api.Program{}) {
		t.Errorf("%q: beside Diags stands %v", l, p)
	}
}

// The texts that tests tell have all that cores may have.
func TestTexts(t *testing.T) {
	for kind := range api.CKinds {
		f := forms[kind]
		c := api.Core{Kind: kind, Kids: make([]api.Core, max(f.kids, 0))}
		for i := range c.Kids {
			c.Kids[i] = api.Core{Kind: api.CVar, N: 7 + i}
		}
		if kind == api.CCast {
			c.Types = make([]api.Type, 2)
		}
		plain := coreText(c)
		if strings.Contains(plain, "stray") != (kind == api.CCo || kind == api.CMake) || strings.Count(plain, "v") < len(c.Kids) {
			t.Error(kind, plain)
		}
		for i, other := range []api.Core{
			{Kind: kind, N: 1, Kids: c.Kids, Types: c.Types},
			{Kind: kind, Text: "x", Kids: c.Kids, Types: c.Types},
			{Kind: kind, Kids: append([]api.Core{{}}, c.Kids...), Types: c.Types},
			{Kind: kind, Kids: c.Kids, Types: append([]api.Type{{}}, c.Types...)},
			{Kind: kind, Kids: c.Kids, Types: c.Types, Names: []string{"a"}},
			{Kind: kind, Kids: c.Kids, Types: c.Types, Ints: []int{0}},
			{Kind: kind, Kids: c.Kids, Types: c.Types, Cos: make([]api.Co, 1)},
		} {
			if s := coreText(other); s == plain || s == "" {
				t.Error(kind, i, s)
			}
		}
	}
}
