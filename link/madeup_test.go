package link

import (
	"fmt"
	"reflect"
	"slices"
	"strings"
	"testing"

	"gradus/api"
	"gradus/lex"
)

// chance is a row of numbers that is the same each time.
type chance uint64

func (c *chance) below(n int) int {
	*c ^= *c << 13
	*c ^= *c >> 7
	*c ^= *c << 17
	return int(uint64(*c)>>11) % n
}

func (c *chance) one(l []string) string { return l[c.below(len(l))] }

// made is a module whose places are known without parsing it: each import and each function has a line of its own.
type made struct {
	name    string
	broken  bool
	imports []madeImport
	funs    []madeFun
}

type madeImport struct {
	from  string
	names []string
}

type madeFun struct {
	name         string
	export, vars bool
}

func (m made) text() string {
	var s strings.Builder
	for i, im := range m.imports {
		fmt.Fprintf(&s, "%simport %s: %s;\n", strings.Repeat(" ", i%3), im.from, strings.Join(im.names, ", "))
	}
	for _, f := range m.funs {
		if f.export {
			s.WriteString("export ")
		}
		s.WriteString("fn " + f.name)
		if f.vars {
			s.WriteString("[A]")
		}
		s.WriteString("(x) = x;\n")
	}
	if m.broken {
		s.WriteString(" =")
	}
	return s.String()
}

func (m made) importPlace(i int) (line, col int) { return i + 1, 1 + i%3 }

func (m made) funPlace(i int) (line, col int) {
	if m.funs[i].export {
		return len(m.imports) + i + 1, 8
	}
	return len(m.imports) + i + 1, 1
}

// first is the first function of that name, or -1.
func (m made) first(name string) int {
	return slices.IndexFunc(m.funs, func(f madeFun) bool { return f.name == name })
}

// reading is a second reading of P7.1 and P7.2: turn by turn, with lists gone through in the place of maps.
type reading struct {
	l      []made
	diags  []api.Diag
	scopes [][]api.Entry
	main   api.Entry
}

func (r *reading) say(m, line, col int, e api.Errno) {
	r.diags = append(r.diags, diag(m, line, col, e))
}

func (r *reading) find(name string) int {
	return slices.IndexFunc(r.l, func(m made) bool { return m.name == name })
}

func (r *reading) turnOne() {
	if len(r.l) > 16 {
		r.say(16, 1, 1, api.ErrMany)
		return
	}
	for i, m := range r.l {
		switch {
		case !lex.Name(m.name):
			r.say(i, 1, 1, api.ErrName)
		case r.find(m.name) < i:
			r.say(i, 1, 1, api.ErrTwice)
		case m.broken:
			r.say(i, len(m.imports)+len(m.funs)+1, 2, api.ErrToken)
		}
	}
}

func (r *reading) turnTwo() {
	for i, m := range r.l {
		var scope []api.Entry
		has := func(name string) bool {
			return slices.ContainsFunc(scope, func(e api.Entry) bool { return e.Name == name })
		}
		for n, im := range m.imports {
			line, col := m.importPlace(n)
			from := r.find(im.from)
			if from < 0 {
				r.say(i, line, col, api.ErrModule)
				continue
			}
			for _, name := range im.names {
				f := r.l[from].first(name)
				switch {
				case f < 0 || !r.l[from].funs[f].export:
					r.say(i, line, col, api.ErrExport)
				case has(name):
					r.say(i, line, col, api.ErrTwice)
				default:
					scope = append(scope, api.Entry{Name: name, Module: from, Decl: f})
				}
			}
		}
		for n, f := range m.funs {
			if has(f.name) {
				line, col := m.funPlace(n)
				r.say(i, line, col, api.ErrTwice)
			} else {
				scope = append(scope, api.Entry{Name: f.name, Module: i, Decl: n})
			}
		}
		r.scopes = append(r.scopes, scope)
	}
}

// turnThree knows who reaches whom by going one step further again and again, up to as many steps as there are modules.
func (r *reading) turnThree() {
	n := len(r.l)
	var reach [16][16]bool
	for range n + 1 {
		for a := range n {
			for _, im := range r.l[a].imports {
				b := r.find(im.from)
				reach[a][b] = true
				for c := range n {
					reach[a][c] = reach[a][c] || reach[b][c]
				}
			}
		}
	}
	for i, m := range r.l {
		for k, im := range m.imports {
			if from := r.find(im.from); from == i || reach[from][i] {
				line, col := m.importPlace(k)
				r.say(i, line, col, api.ErrCycle)
			}
		}
	}
}

func (r *reading) turnFour() {
	m := r.find("main")
	if m < 0 {
		r.say(0, 1, 1, api.ErrMain)
		return
	}
	f := r.l[m].first("main")
	if f < 0 {
		r.say(m, 1, 1, api.ErrMain)
		return
	}
	if r.l[m].funs[f].vars {
		line, col := r.l[m].funPlace(f)
		r.say(m, line, col, api.ErrMain)
	}
	r.main = api.Entry{Name: "main", Module: m, Decl: f}
}

func read(l []made) *reading {
	r := &reading{l: l}
	for _, turn := range []func(){r.turnOne, r.turnTwo, r.turnThree, r.turnFour} {
		if turn(); len(r.diags) > 0 {
			return r
		}
	}
	return r
}

// makeUp is modules with something wrong now and then: the less sloppy, the less often.
func makeUp(c *chance, sloppy int) []made {
	sometimes := func(n int) bool { return c.below(n) < sloppy }
	l := make([]made, 1+c.below(6))
	names := []string{"main", "a", "b", "c", "d", "e", "g"}
	for i := range l {
		l[i].name = names[i]
		if sometimes(60) {
			l[i].name = c.one([]string{"a", "b", "", "let", "main", "a b"})
		}
		l[i].broken = sometimes(60)
		for k := range 1 + c.below(3) {
			f := madeFun{name: fmt.Sprintf("f%d%d", i, k), export: c.below(3) > 0, vars: sometimes(20)}
			if sometimes(20) {
				f.name = c.one([]string{"f00", "f10", "f11", "f20", "main"})
			}
			l[i].funs = append(l[i].funs, f)
		}
		if i == 0 && !sometimes(20) {
			l[i].funs = append(l[i].funs, madeFun{name: "main", export: c.below(2) > 0})
		}
	}
	c.shuffle(l)
	for i := range l {
		for range c.below(3) {
			if i == len(l)-1 && c.below(8) > 0 {
				break
			}
			l[i].imports = append(l[i].imports, makeImport(c, l, i, sometimes))
		}
	}
	return l
}

func (c *chance) shuffle(l []made) {
	for i := range l {
		k := i + c.below(len(l)-i)
		l[i], l[k] = l[k], l[i]
	}
}

// makeImport takes exported names that are there, and rarely others; it leads mostly to later modules, so that not all is cycles.
func makeImport(c *chance, l []made, at int, sometimes func(int) bool) madeImport {
	from := at
	if at+1 < len(l) {
		from = at + 1 + c.below(len(l)-at-1)
	}
	if at > 0 && (from == at || c.below(8) == 0) {
		from = c.below(at)
	}
	if sometimes(30) {
		from = c.below(len(l))
	}
	im := madeImport{from: l[from].name}
	if sometimes(40) || !lex.Name(im.from) {
		im.from = c.one([]string{"a", "z", "main"})
	}
	for _, f := range l[from].funs {
		if f.export && c.below(2) == 0 || sometimes(20) {
			im.names = append(im.names, f.name)
		}
	}
	if len(im.names) == 0 {
		im.names = []string{l[from].funs[0].name}
	}
	return im
}

// P7.1 to P7.3, over modules that are made up, against the second reading.
func TestMadeUp(t *testing.T) {
	c := chance(88172645463325252)
	told := map[api.Errno]int{}
	for i := range 20000 {
		l := makeUp(&c, i%4)
		var given []api.Source
		for _, m := range l {
			given = append(given, api.Source{Name: m.name, Text: m.text()})
		}
		r := read(l)
		p, d := Link(given)
		if len(d) != len(r.diags) || len(d) > 0 && !reflect.DeepEqual(d, r.diags) {
			t.Fatalf("%q:\ngot  %v\nwant %v", given, d, r.diags)
		}
		holdWithin(t, given, d)
		if len(d) > 0 {
			told[d[0].E]++
			if !reflect.DeepEqual(p, api.Linked{}) {
				t.Fatalf("%q: %v beside %v", given, p, d)
			}
			continue
		}
		told[api.OK]++
		holdAsGiven(t, given, p)
		if !reflect.DeepEqual(p.Scopes, r.scopes) || p.Main != r.main {
			t.Fatalf("%q:\ngot  %v, %v\nwant %v, %v", given, p.Scopes, p.Main, r.scopes, r.main)
		}
		holdNoCycle(t, p)
	}
	for _, e := range []api.Errno{api.OK, api.ErrName, api.ErrTwice, api.ErrToken, api.ErrModule, api.ErrExport, api.ErrCycle, api.ErrMain} {
		if told[e] < 100 {
			t.Errorf("the error %d came up just %d times: %v", e, told[e], told)
		}
	}
}

// holdWithin: P7.3, Diags lie within l's modules: their number is one's, and their place is in its text.
func holdWithin(t *testing.T, l []api.Source, d []api.Diag) {
	t.Helper()
	for _, x := range d {
		if x.Module < 0 || x.Module >= len(l) {
			t.Fatalf("%q: %v", l, x)
		}
		lines := strings.Split(l[x.Module].Text, "\n")
		if x.Line < 1 || x.Line > len(lines) || x.Col < 1 || x.Col > len(lines[x.Line-1])+1 {
			t.Fatalf("%q: %v", l, x)
		}
	}
}

// holdNoCycle: P7.3, modules that import from none that is left may be taken away till none is left.
func holdNoCycle(t *testing.T, p api.Linked) {
	t.Helper()
	left := slices.Clone(p.Names)
	for len(left) > 0 {
		before := len(left)
		for i, m := range p.Modules {
			free := !slices.ContainsFunc(m.Imports, func(im api.Import) bool { return slices.Contains(left, im.From) })
			if k := slices.Index(left, p.Names[i]); free && k >= 0 {
				left = slices.Delete(left, k, k+1)
			}
		}
		if len(left) == before {
			t.Fatalf("%v import one another", left)
		}
	}
}

// R3: what is handed in stays as it was, and what is answered is the caller's own.
func TestOwn(t *testing.T) {
	good := sources("main: import a: f; import b: g, h; fn k(x) = x; fn main(x: {a: int | null}) = {a: f(x)};", "a: import b: g; export fn f[A <: {b: int}](x) = x;", "b: export fn g(x) = x; export fn h(x) = x;")
	bad := sources("main: import a: f, z; fn main(x) = x; fn main(x) = x;", "a: export fn f(x) = x;")
	for _, l := range [][]api.Source{good, bad, manyModules(17)} {
		before := slices.Clone(l)
		p, d := Link(l)
		again, dAgain := Link(l)
		if !reflect.DeepEqual(l, before) {
			t.Errorf("%q became %q", before, l)
		}
		spoil(reflect.ValueOf(&again))
		spoil(reflect.ValueOf(&dAgain))
		if third, dThird := Link(l); !reflect.DeepEqual(p, third) || !reflect.DeepEqual(d, dThird) {
			t.Errorf("%q: an answer hangs on what was done to another one", l)
		}
		clear(l)
		if third, dThird := Link(before); !reflect.DeepEqual(p, third) || !reflect.DeepEqual(d, dThird) {
			t.Errorf("%q: an answer hangs on what was done to what was handed in", before)
		}
	}
	p, _ := Link(sources("main: import a: f; fn main(x) = x;", "a: export fn f(x) = x; export fn g(x) = x;"))
	seen := map[uintptr]string{}
	noSharing(t, reflect.ValueOf(p), "", seen)
}

// spoil writes noughts over all elements of all lists, the room behind them included.
func spoil(v reflect.Value) {
	switch v.Kind() {
	case reflect.Pointer:
		spoil(v.Elem())
	case reflect.Struct:
		for i := range v.NumField() {
			spoil(v.Field(i))
		}
	case reflect.Slice:
		v = v.Slice(0, v.Cap())
		for i := range v.Len() {
			spoil(v.Index(i))
			v.Index(i).SetZero()
		}
	}
}

// noSharing holds that no two lists begin at the same place or stand in one another's room.
func noSharing(t *testing.T, v reflect.Value, path string, seen map[uintptr]string) {
	t.Helper()
	switch v.Kind() {
	case reflect.Struct:
		for i := range v.NumField() {
			noSharing(t, v.Field(i), path+"."+v.Type().Field(i).Name, seen)
		}
	case reflect.Slice:
		size := v.Type().Elem().Size()
		for i := range v.Cap() {
			at := v.Pointer() + uintptr(i)*size
			if other, there := seen[at]; there {
				t.Errorf("%s shares with %s", path, other)
			}
			seen[at] = path
		}
		for i := range v.Len() {
			noSharing(t, v.Index(i), fmt.Sprint(path, "[", i, "]"), seen)
		}
	}
}

// P1: many imports, and many functions, are gone through soon.
func TestMany(t *testing.T) {
	var l []api.Source
	name := func(i int) string { return fmt.Sprint("m", i) }
	for i := range 16 {
		var s strings.Builder
		if i < 15 {
			for k := range 400 {
				fmt.Fprintf(&s, "import m%d: f%d_%d;\n", i+1, i+1, k)
			}
		}
		for k := range 400 {
			fmt.Fprintf(&s, "export fn f%d_%d(x) = x;\n", i, k)
		}
		l = append(l, api.Source{Name: name(i), Text: s.String()})
	}
	holdDiags(t, l, diag(0, 1, 1, api.ErrMain))
	ring := slices.Clone(l)
	ring[15].Text = "import m0: f0_0;\n" + ring[15].Text
	if _, d := Link(ring); len(d) != 15*400+1 || d[6000] != diag(15, 1, 1, api.ErrCycle) {
		t.Error(len(d))
	}
	ring[15].Text = "import m0: f0_0, f0_0, f0_400, f0_1;\n" + l[15].Text
	holdDiags(t, ring, diag(15, 1, 1, api.ErrTwice), diag(15, 1, 1, api.ErrExport))
}
