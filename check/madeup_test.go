package check

import (
	"fmt"
	"reflect"
	"slices"
	"strings"
	"testing"

	"gradus/api"
	"gradus/link"
	"gradus/rel"
	"gradus/tree"
	"gradus/types"
)

// chance is a row of numbers that is the same each time.
type chance uint64

func (c *chance) below(n int) int {
	*c ^= *c << 13
	*c ^= *c >> 7
	*c ^= *c << 17
	return int(uint64(*c)>>11) % n
}

// maker makes up modules, most of them right: an expression is made for a type that is wanted.
type maker struct {
	*chance
	sloppy  int  // of so many hundreds of expressions and types is something else than is wanted
	strict  bool // no any, no as, and each function tells both its types
	modules []api.Module
	scope   []api.Decl // what is in scope in the module
	vars    []api.Var
	in      []variable
}

func (k *maker) one(words string) string {
	l := strings.Fields(words)
	return l[k.below(len(l))]
}

func (k *maker) slips() bool { return k.below(400) < k.sloppy }

// typ is one that may be written where the maker is.
func (k *maker) typ(height int) api.Type {
	switch n := k.below(14); {
	case k.slips():
		return api.Type{Kind: api.TVar, Name: "Z"}
	case n < 4 && len(k.vars) > 0:
		return api.Type{Kind: api.TVar, Name: k.vars[k.below(len(k.vars))].Name}
	case n < 4 && !k.strict:
		return anyType
	case n < 8 || height <= 1:
		return api.Type{Kind: api.TNull + k.below(4)}
	case n < 10:
		return k.recordType(height)
	case n < 12:
		return api.Type{Kind: api.TFun, Kids: []api.Type{k.typ(height - 1), k.typ(height - 1)}}
	}
	t := api.Type{Kind: api.TUnion}
	first := k.below(3)
	for tag := first; tag < first+2+k.below(2); tag++ {
		t.Kids = append(t.Kids, []api.Type{nullType, boolType, intType, strType, k.recordType(height - 1)}[tag])
	}
	return t
}

func (k *maker) recordType(height int) api.Type {
	t := api.Type{Kind: api.TRec}
	for _, name := range []string{"b", "a", "c"} {
		if k.below(2) == 0 {
			t.Names, t.Kids = append(t.Names, name), append(t.Kids, k.typ(height-1))
		}
	}
	return t
}

func same(a, b api.Type) bool { return tree.Type(a) == tree.Type(b) }

func called(name string) api.Node { return api.Node{Kind: api.NName, Text: name} }

// leaf is an expression of little more than the type that is wanted.
func (k *maker) leaf(want api.Type) api.Node {
	var l []string
	for i, v := range k.in {
		hidden := slices.ContainsFunc(k.in[i+1:], func(w variable) bool { return w.name == v.name })
		if same(v.is, want) && !hidden {
			l = append(l, v.name)
		}
	}
	if len(l) > 0 && k.below(4) > 0 {
		return called(l[k.below(len(l))])
	}
	switch want.Kind {
	case api.TNull:
		return api.Node{Kind: api.NNull}
	case api.TBool:
		return api.Node{Kind: api.NBool, N: k.below(2)}
	case api.TInt:
		return []api.Node{{Kind: api.NInt, N: k.below(100)}, {Kind: api.NRead}}[k.below(2)]
	case api.TStr:
		return api.Node{Kind: api.NStr, Text: k.one("E F op v0 @")}
	case api.TRec:
		n := api.Node{Kind: api.NRec, Names: want.Names}
		for _, kid := range want.Kids {
			n.Kids = append(n.Kids, k.leaf(kid))
		}
		return n
	case api.TFun:
		return k.function(want, 1)
	case api.TUnion:
		return k.leaf(want.Kids[k.below(len(want.Kids))])
	case api.TVar:
		return api.Node{Kind: api.NAs, Types: []api.Type{want}, Kids: []api.Node{{Kind: api.NNull}}}
	}
	return k.leaf(k.typ(2))
}

// within makes what has a variable more in scope.
func (k *maker) within(name string, is api.Type, want api.Type, height int) api.Node {
	k.in = append(k.in, variable{name, is})
	n := k.expr(want, height)
	k.in = k.in[:len(k.in)-1]
	return n
}

func (k *maker) function(want api.Type, height int) api.Node {
	n := api.Node{Kind: api.NFn, Text: k.one("a b c x f0 f1"), Types: want.Kids}
	n.Kids = []api.Node{k.within(n.Text, want.Kids[0], want.Kids[1], height-1)}
	if !k.strict && k.below(3) == 0 {
		n.Types = n.Types[:1]
	}
	return n
}

// wrongly is an expression that is hardly ever right.
func (k *maker) wrongly(height int) api.Node {
	e := func() api.Node { return k.expr(k.typ(2), height-1) }
	switch k.below(7) {
	case 0:
		return called(k.one("zz g0 g1 g2 f0 f1 f2 f3 main"))
	case 1:
		return api.Node{Kind: api.NRec, Names: []string{"a", "b", "a"}, Kids: []api.Node{e(), e(), e()}}
	case 2:
		return api.Node{Kind: api.NInst, Text: k.one("g0 g1 g2 g3 f0 f1 zz a x"), Types: []api.Type{k.typ(2)}}
	case 3:
		return api.Node{Kind: api.NCall, Kids: []api.Node{e(), e()}}
	case 4:
		return api.Node{Kind: api.NSel, Text: k.one("a b z"), Kids: []api.Node{e()}}
	case 5:
		return api.Node{Kind: api.NWith, Text: k.one("a b z"), Kids: []api.Node{e(), e()}}
	}
	return e()
}

func (k *maker) expr(want api.Type, height int) api.Node {
	if height <= 1 {
		return k.leaf(want)
	}
	if k.slips() {
		return k.wrongly(height)
	}
	switch k.below(11) {
	case 0, 1:
		return k.let(want, height)
	case 2, 3:
		return k.choice(want, height)
	case 4:
		if !k.strict {
			return api.Node{Kind: api.NAs, Types: []api.Type{want}, Kids: []api.Node{k.expr(k.typ(2), height-1)}}
		}
	case 5:
		return k.calls(want, height)
	case 6:
		if n, ok := k.callsScope(want, height); ok {
			return n
		}
	case 7:
		name := k.one("a b c")
		record := api.Type{Kind: api.TRec, Names: []string{name}, Kids: []api.Type{want}}
		if want.Kind == api.TAny {
			record = anyType
		}
		return api.Node{Kind: api.NSel, Text: name, Kids: []api.Node{k.expr(record, height-1)}}
	}
	return k.ofKind(want, height)
}

func (k *maker) let(want api.Type, height int) api.Node {
	is := k.typ(3)
	n := api.Node{Kind: api.NLet, Text: k.one("a b c x y f0 f1 g0")}
	e := k.expr(is, height-1)
	if k.below(2) == 0 {
		n.Types = []api.Type{is}
	}
	n.Kids = []api.Node{e, k.within(n.Text, is, want, height-1)}
	return n
}

func (k *maker) choice(want api.Type, height int) api.Node {
	n := api.Node{Kind: api.NIf}
	if k.below(2) > 0 {
		n.Kids = []api.Node{k.expr(boolType, height-1), k.expr(want, height-1), k.expr(want, height-1)}
		return n
	}
	v := k.below(len(k.in))
	tag := k.below(api.Tags)
	before := k.in[v].is
	if kept, e := types.Norm(before); e == api.OK && kept.Kind == api.TUnion {
		tag = types.Tag(kept.Kids[k.below(len(kept.Kids))])
	}
	test := api.Node{Kind: api.NIs, N: tag, Kids: []api.Node{called(k.in[v].name)}}
	kept, e := types.Norm(before)
	if e != api.OK {
		kept = before
	}
	yes, no := rel.Narrow(kept, tag)
	k.in[v].is = yes
	first := k.expr(want, height-1)
	k.in[v].is = no
	second := k.expr(want, height-1)
	k.in[v].is = before
	n.Kids = []api.Node{test, first, second}
	return n
}

// calls is a call of a function that is made for it.
func (k *maker) calls(want api.Type, height int) api.Node {
	if want.Kind == api.TAny && k.below(2) == 0 {
		return api.Node{Kind: api.NCall, Kids: []api.Node{k.expr(anyType, height-1), k.expr(k.typ(2), height-1)}}
	}
	takes := k.typ(2)
	f := k.expr(api.Type{Kind: api.TFun, Kids: []api.Type{takes, want}}, height-1)
	return api.Node{Kind: api.NCall, Kids: []api.Node{f, k.expr(takes, height-1)}}
}

// callsScope is a call of a function of the scope that answers what is wanted, an instance maybe.
func (k *maker) callsScope(want api.Type, height int) (api.Node, bool) {
	if len(k.scope) == 0 {
		return api.Node{}, false
	}
	d := k.scope[k.below(len(k.scope))]
	f, takes := called(d.Name), d.Types[0]
	if len(d.Vars) > 0 {
		f.Kind = api.NInst
		for _, v := range d.Vars {
			with := want
			if v.Bound.Kind != api.TAny {
				with = []api.Type{v.Bound, intType, {Kind: api.TRec, Names: []string{"a"}, Kids: []api.Type{want}}}[k.below(3)]
			}
			f.Types = append(f.Types, with)
		}
		takes = want
	} else if !same(d.Types[1], want) && k.below(8) > 0 {
		return api.Node{}, false
	}
	return api.Node{Kind: api.NCall, Kids: []api.Node{f, k.expr(takes, height-1)}}, true
}

func (k *maker) ofKind(want api.Type, height int) api.Node {
	side := func(is api.Type) api.Node {
		if !k.strict && k.below(5) == 0 {
			is = anyType
		}
		return k.expr(is, height-1)
	}
	two := func(ops string, is api.Type) api.Node {
		return api.Node{Kind: api.NOp, Text: k.one(ops), Kids: []api.Node{side(is), side(is)}}
	}
	switch want.Kind {
	case api.TNull:
		return api.Node{Kind: api.NPrint, Kids: []api.Node{k.expr(k.typ(2), height-1)}}
	case api.TInt:
		if k.below(6) == 0 {
			return api.Node{Kind: api.NNeg, Kids: []api.Node{side(intType)}}
		}
		return two("+ - * / % << >> & ^", intType)
	case api.TStr:
		return two("++", strType)
	case api.TBool:
		return []api.Node{two("< <=", intType), two("or and", boolType), two("==", k.typ(2)), {Kind: api.NNot, Kids: []api.Node{side(boolType)}},
			{Kind: api.NIs, N: k.below(api.Tags), Kids: []api.Node{k.expr(k.typ(2), height-1)}}}[k.below(5)]
	case api.TRec:
		return k.record(want, height)
	case api.TFun:
		return k.function(want, height)
	}
	return k.leaf(want)
}

func (k *maker) record(want api.Type, height int) api.Node {
	n := api.Node{Kind: api.NRec}
	if len(want.Kids) > 0 && k.below(3) == 0 {
		last := len(want.Kids) - 1
		rest := api.Type{Kind: api.TRec, Names: want.Names[:last], Kids: want.Kids[:last]}
		if !k.strict && last == 0 {
			rest = anyType
		}
		return api.Node{Kind: api.NWith, Text: want.Names[last], Kids: []api.Node{k.expr(rest, height-1), k.expr(want.Kids[last], height-1)}}
	}
	for i, name := range want.Names {
		n.Names, n.Kids = append(n.Names, name), append(n.Kids, k.expr(want.Kids[i], height-1))
	}
	if k.below(3) == 0 {
		n.Names, n.Kids = append(n.Names, "d"), append(n.Kids, k.expr(k.typ(2), height-1))
	}
	return n
}

// head is a function without its body. Each takes and answers the same, if it has variables for types.
func (k *maker) head(name string) api.Decl {
	d := api.Decl{Name: name, Export: true, Param: k.one("x a f0")}
	if name[0] == 'g' {
		d.Vars = []api.Var{{Name: "A"}}
		if k.below(2) == 0 {
			d.Vars = append(d.Vars, api.Var{Name: "B", Bound: []api.Type{intType, {Kind: api.TRec, Names: []string{"a"}, Kids: []api.Type{{Kind: api.TVar, Name: "A"}}}}[k.below(2)]})
		}
		a := api.Type{Kind: api.TVar, Name: "A"}
		d.Types = []api.Type{a, a}
		return d
	}
	d.Types = []api.Type{k.typ(3), k.typ(3)}
	if name == "main" && !k.slips() {
		d.Types[0] = []api.Type{nullType, {Kind: api.TUnion, Kids: []api.Type{intType, nullType}}, {Kind: k.below(2)}}[k.below(2)]
	}
	return d
}

// makeUp is up to three modules, the first of which is main; each may take functions from those behind it.
func (k *maker) makeUp() []api.Source {
	names := []string{"main", "a", "b"}[:1+k.below(3)]
	k.modules = make([]api.Module, len(names))
	for m := range names {
		for i := range 1 + k.below(3) {
			kind := k.one("f f g")
			k.modules[m].Decls = append(k.modules[m].Decls, k.head(fmt.Sprint(kind, m+3*i)))
		}
	}
	k.modules[0].Decls = append(k.modules[0].Decls, k.head("main"))
	var l []api.Source
	for m, name := range names {
		k.scope = slices.Clone(k.modules[m].Decls)
		for from := m + 1; from < len(names); from++ {
			im := api.Import{From: names[from]}
			for _, d := range k.modules[from].Decls {
				if k.below(3) > 0 {
					im.Names = append(im.Names, d.Name)
					k.scope = append(k.scope, d)
				}
			}
			if len(im.Names) > 0 {
				k.modules[m].Imports = append(k.modules[m].Imports, im)
			}
		}
		for i := range k.modules[m].Decls {
			d := &k.modules[m].Decls[i]
			k.vars, k.in = d.Vars, []variable{{d.Param, d.Types[0]}}
			d.Body = k.expr(d.Types[1], 1+k.below(5))
			k.vars = nil
		}
		l = append(l, api.Source{Name: name, Text: tree.Print(k.modules[m])})
	}
	return l
}

// P9.1 and P9.2, over modules that are made up, against the second reading.
func TestMadeUp(t *testing.T) {
	c := chance(88172645463325252)
	told, kinds := map[api.Errno]int{}, map[int]int{}
	right, sites, instances, several := 0, 0, 0, 0
	for i := range 20000 {
		k := &maker{chance: &c, sloppy: []int{0, 2, 8, 30}[i%4]}
		l := k.makeUp()
		linked, found := link.Link(l)
		if len(found) > 0 {
			t.Fatalf("%q: %v", l, found)
		}
		r, want, diags := read(linked)
		p, d := Check(linked)
		if !slices.Equal(d, diags) {
			t.Fatalf("%s\ngot  %v\nwant %v", texts(l), d, diags)
		}
		holdWithin(t, l, d)
		for _, x := range d {
			told[x.E]++
		}
		if len(d) > 0 {
			if !reflect.DeepEqual(p, api.Program{}) {
				t.Fatalf("%s: %v beside %v", texts(l), p, d)
			}
			if len(d) > 1 {
				several++
			}
			continue
		}
		if got := programText(p); got != want {
			t.Fatalf("%s\ngot\n%s\nwant\n%s", texts(l), got, want)
		}
		right, sites = right+1, sites+len(p.Sites)
		instances += len(slices.DeleteFunc(r.funs, func(i api.Instance) bool { return len(i.Types) == 0 }))
		for _, f := range p.Funs {
			holdCore(t, f.Body, 1, p, kinds)
		}
	}
	for _, e := range []api.Errno{api.ErrTwice, api.ErrType, api.ErrName, api.ErrMain, api.ErrMatch, api.ErrCall, api.ErrField, api.ErrInst} {
		if told[e] < 100 {
			t.Errorf("the error %d came up just %d times: %v", e, told[e], told)
		}
	}
	for kind := range api.CCo {
		if kinds[kind] < 100 {
			t.Errorf("cores of the kind %d came up just %d times", kind, kinds[kind])
		}
	}
	if right < 5000 || sites < 10000 || instances < 500 || several < 1000 {
		t.Error(right, "programs,", sites, "sites,", instances, "instances,", several, "with several Diags")
	}
}

func texts(l []api.Source) string {
	var s strings.Builder
	for _, m := range l {
		s.WriteString(m.Name + ":\n" + m.Text)
	}
	return s.String()
}

// holdWithin: P9.2, each Diag lies in one of the modules.
func holdWithin(t *testing.T, l []api.Source, d []api.Diag) {
	t.Helper()
	for _, x := range d {
		if x.Module < 0 || x.Module >= len(l) {
			t.Fatalf("%s: %v", texts(l), x)
		}
		lines := strings.Split(l[x.Module].Text, "\n")
		if x.Line < 1 || x.Line > len(lines) || x.Col < 1 || x.Col > len(lines[x.Line-1]) {
			t.Fatalf("%s: %v", texts(l), x)
		}
	}
}

// holdCore: P9.2, casts' types are normal, and one fits the other; numbers are of what there is.
func holdCore(t *testing.T, c api.Core, scope int, p api.Program, kinds map[int]int) {
	t.Helper()
	kinds[c.Kind]++
	bad := c.Kind == api.CVar && c.N >= scope || c.Kind == api.CGlobal && c.N >= len(p.Funs) || c.N < 0
	if c.Kind == api.CCast {
		from, to := c.Types[0], c.Types[1]
		bad = bad || c.N >= len(p.Sites) || !isNormal(from) || !isNormal(to) || !rel.Fits(from, to) || rel.Sub(from, to)
	}
	if bad {
		t.Fatalf("%s in %s", coreText(c), programText(p))
	}
	for i, kid := range c.Kids {
		more := c.Kind == api.CFn || c.Kind == api.CLet && i == 1
		holdCore(t, kid, scope+map[bool]int{true: 1}[more], p, kinds)
	}
}

func isNormal(t api.Type) bool {
	kept, e := types.Norm(t)
	return e == api.OK && types.Same(kept, t)
}

// P9.2: without any, with all types told and without as, there is no site; unless a choice comes to any by itself.
func TestNoAny(t *testing.T) {
	c := chance(1234567)
	none, joined := 0, 0
	for i := range 8000 {
		k := &maker{chance: &c, sloppy: i % 2, strict: true}
		l := k.makeUp()
		// The maker has no other way to come to a value of a variable's type.
		if strings.Contains(texts(l), " as ") {
			continue
		}
		linked, found := link.Link(l)
		if len(found) > 0 {
			t.Fatalf("%q: %v", l, found)
		}
		if strings.Contains(texts(l), "any") {
			t.Fatalf("%s: any is written", texts(l))
		}
		r, _, _ := read(linked)
		p, d := Check(linked)
		switch {
		case len(d) > 0:
		case r.anyJoins > 0:
			joined++
		case len(p.Sites) > 0:
			t.Fatalf("%s: %s", texts(l), programText(p))
		default:
			none++
		}
	}
	if none < 2000 {
		t.Error("just", none, "without sites,", joined, "with choices that came to any")
	}
}

// P9.2: what is said of it by hand. The last two come to any by what if says, though none is written.
func TestNoAnyByHand(t *testing.T) {
	for text, sites := range map[string]int{
		"fn main(x: null): null = x;": 0,
		"fn f(r: {a: int, b: str}): {a: int} = r; fn main(x: null): int = f({b: \"x\", a: 1, c: x}).a;":                                                   0,
		"fn f(g: int -> int | null): int | null = g(1); fn main(x: null): int | null = f(fn (n: int): int => n);":                                         0,
		"fn id[A](x: A): A = x; fn main(x: null | int): int | str = if x is null then id[str](\"a\") else id[int](x);":                                    0,
		"fn main(x: null): int = let r = {a: 1}; {{r with b: 2} with a: \"x\"}.b + -r.a;":                                                                 0,
		"fn main(x: null): int | null | str = let v = if true then 1 else null; if v is int then v + 1 else if 1 < 2 or not (2 == x) then \"s\" else v; ": 0,
		"fn main(x): null = null;":                                                         0,
		"fn main(x: null): null = print(fn (y) => y);":                                     0,
		"fn main(x): null = x;":                                                            1,
		"fn main(x: null) = x;":                                                            1,
		"fn main(x: null): any = x;":                                                       1,
		"fn main(x: null): int = (null as int);":                                           1,
		"fn main(x: null): null = print((fn (y): int => y)(\"a\"));":                       2,
		"fn main(x: null): null = print(if true then {a: 1} else {b: 1});":                 2,
		"fn f(n: int): int = n; fn main(x: null): null = print(if true then main else f);": 2,
	} {
		p, d := Check(linked(t, sources("main: "+text)))
		if len(d) > 0 || len(p.Sites) != sites {
			t.Error(text, d, programText(p))
		}
	}
}
