package inst

import (
	"fmt"
	"slices"
	"strings"
	"testing"

	"gradus/api"
	"gradus/parse"
	"gradus/types"
)

func leaf(kind int) api.Type { return api.Type{Kind: kind} }

func node(kind int, kids ...api.Type) api.Type { return api.Type{Kind: kind, Kids: kids} }

func function(takes, answers api.Type) api.Type { return node(api.TFun, takes, answers) }

func union(kids ...api.Type) api.Type { return node(api.TUnion, kids...) }

func variable(name string) api.Type { return api.Type{Kind: api.TVar, Name: name} }

func record(names string, kids ...api.Type) api.Type {
	return api.Type{Kind: api.TRec, Names: strings.Fields(names), Kids: kids}
}

var (
	anyType  = leaf(api.TAny)
	nullType = leaf(api.TNull)
	intType  = leaf(api.TInt)
	strType  = leaf(api.TStr)
)

// written is the type of a text as it is written there, with its variables.
func written(s string) api.Type {
	t, d := parse.Type(s)
	if d.E != api.OK {
		panic(fmt.Sprint(s, d))
	}
	return t
}

// typ is the normal type of a text.
func typ(s string) api.Type {
	t, e := types.Norm(written(s))
	if e != api.OK {
		panic(fmt.Sprint(s, e))
	}
	return t
}

// typs are the normal types of texts with `;` between two; of no text there are none.
func typs(s string) []api.Type {
	var l []api.Type
	for _, one := range strings.FieldsFunc(s, func(r rune) bool { return r == ';' }) {
		l = append(l, typ(one))
	}
	return l
}

// text tells all of a type, so that two are the same if their texts are.
func text(t api.Type) string {
	kids := make([]string, len(t.Kids))
	for i, kid := range t.Kids {
		kids[i] = text(kid)
	}
	return fmt.Sprintf("<%d %q %d%q %s>", t.Kind, t.Name, len(t.Names), t.Names, strings.Join(kids, " "))
}

// short is for what tests tell.
func short(t api.Type) string {
	if s := types.Show(t); s != "" {
		return s
	}
	if types.Size(t) > api.MaxType {
		return fmt.Sprintf("<%d, great>", t.Kind)
	}
	return text(t)
}

func copyAll(t api.Type) api.Type {
	c := api.Type{Kind: t.Kind, Name: t.Name}
	if t.Names != nil {
		c.Names = append([]string{}, t.Names...)
	}
	c.Kids = copyList(t.Kids)
	return c
}

func copyList(l []api.Type) []api.Type {
	if l == nil {
		return nil
	}
	c := []api.Type{}
	for _, t := range l {
		c = append(c, copyAll(t))
	}
	return c
}

// chain is of that height, and as big.
func chain(height int, last api.Type) api.Type {
	for range height - 1 {
		last = record("a", last)
	}
	return last
}

// big is a record of that size, from 4 to 16 * 16 + 2, whose last field of the last record within is of the type last.
func big(size int, last api.Type) api.Type {
	t := record("")
	for i := 0; size > 1; i++ {
		inner := min(size-2, 16)
		if size-2-inner == 1 {
			inner--
		}
		kid := record("")
		for k := range inner {
			kid.Names = append(kid.Names, fmt.Sprintf("f%02d", k))
			kid.Kids = append(kid.Kids, strType)
		}
		t.Names = append(t.Names, fmt.Sprintf("g%02d", i))
		t.Kids = append(t.Kids, kid)
		size -= 1 + inner
	}
	kids := t.Kids[len(t.Kids)-1].Kids
	kids[len(kids)-1] = last
	return t
}

// notNormal has types that are each wrong in another way.
func notNormal() []api.Type {
	return []api.Type{
		variable("A"), leaf(api.TVar), leaf(-1), leaf(9), leaf(1 << 40), {Name: "x"}, {Names: []string{"x"}}, node(api.TAny, intType),
		{Kind: api.TInt, Name: "x"}, {Kind: api.TStr, Names: []string{"x"}}, node(api.TNull, nullType),
		record("b a", intType, intType), record("a a", intType, intType), record("a"), record("", intType), record("let", intType), record("1a", intType),
		{Kind: api.TRec, Name: "x"}, leaf(api.TFun), node(api.TFun, intType), node(api.TFun, intType, intType, intType), {Kind: api.TFun, Name: "x", Kids: []api.Type{intType, intType}},
		leaf(api.TUnion), union(intType), union(intType, nullType), union(intType, intType), union(anyType, intType), union(union(nullType, intType), strType),
		{Kind: api.TUnion, Name: "x", Kids: []api.Type{nullType, intType}}, function(variable("A"), intType), record("a", union(intType)), chain(17, variable("A")), big(201, leaf(9)),
	}
}

type resolved struct{ t, vars, with, want string }

func holdResolve(t *testing.T, in api.Type, vars []string, with []api.Type, want api.Type, wantE api.Errno) {
	t.Helper()
	got, e := Resolve(in, vars, with)
	if e != wantE || text(got) != text(want) {
		t.Errorf("Resolve(%s, %q, %d types): %s, %d, not %s, %d", short(in), vars, len(with), short(got), e, short(want), wantE)
	}
}

func holdNoResolve(t *testing.T, in api.Type, vars []string, with []api.Type, wantE api.Errno) {
	t.Helper()
	holdResolve(t, in, vars, with, api.Type{}, wantE)
}

// holdResolved reads types by texts; a want without text is ErrType.
func holdResolved(t *testing.T, list []resolved) {
	t.Helper()
	for _, c := range list {
		if c.want == "" {
			holdNoResolve(t, written(c.t), strings.Fields(c.vars), typs(c.with), api.ErrType)
			continue
		}
		want := typ(c.want)
		if types.Show(want) != c.want {
			t.Errorf("%q is written otherwise: %q", c.want, types.Show(want))
		}
		holdResolve(t, written(c.t), strings.Fields(c.vars), typs(c.with), want, api.OK)
	}
}

// P8.1, P8.2: the chapter's examples.
func TestExamples(t *testing.T) {
	holdResolved(t, []resolved{{"A -> int", "A", "str", "str -> int"}, {"B", "A", "str", ""}})
	if e := Bind([]api.Var{{Name: "A", Bound: intType}}, []api.Type{strType}); e != api.ErrInst {
		t.Error(e)
	}
}

// P8.1: in the place of each variable, wherever it stands, the type of that place.
func TestVariablesAnywhere(t *testing.T) {
	holdResolved(t, []resolved{
		{"A", "A", "str", "str"},
		{"A", "A", "any", "any"},
		{"A", "A", "null | int", "null | int"},
		{"A", "A", "{a: int}", "{a: int}"},
		{"A -> A", "A", "str", "str -> str"},
		{"A -> B", "A B", "str; int", "str -> int"},
		{"B -> A", "A B", "str; int", "int -> str"},
		{"A -> B -> C", "C B A", "str; int; bool", "bool -> int -> str"},
		{"A -> int", "A", "str -> null", "(str -> null) -> int"},
		{"{b: A, a: B}", "A B", "str; int", "{a: int, b: str}"},
		{"{b: {d: A, c: B}, a: {f: A -> {g: B}}}", "A B", "str; int", "{a: {f: str -> {g: int}}, b: {c: int, d: str}}"},
		{"null | {a: A | null}", "A", "int", "null | {a: null | int}"},
		{"(A -> B) | str | B", "A B", "any; null", "null | str | (any -> null)"},
		{"{a: {b: {c: (int -> A | str) | null}}}", "A", "bool", "{a: {b: {c: null | (int -> bool | str)}}}"},
		{"((A -> int) -> int) -> int", "A", "int -> int", "(((int -> int) -> int) -> int) -> int"},
		{"A -> int", "A B", "str; any", "str -> int"},
		{"int | null", "A", "str", "null | int"},
		{"int | null", "", "", "null | int"},
		{"any", "", "", "any"},
		{"A", "", "", ""},
		{"{a: null | (int -> {b: B})}", "A", "str", ""},
		{"A -> B", "A", "str", ""},
		{"B -> A", "A", "str", ""},
		{"{a: int, b: A, c: C}", "A B", "int; int", ""},
		{"A", "a AA", "int; int", ""},
	})
}

// P8.1: the first of vars that is its Name.
func TestFirstOfName(t *testing.T) {
	holdResolved(t, []resolved{
		{"A", "A A", "str; int", "str"},
		{"A", "A A", "int; str", "int"},
		{"A -> B", "B A B A", "null; int; str; bool", "int -> null"},
		{"{a: A, b: B}", "A B A A", "null; int; str; bool", "{a: null, b: int}"},
	})
	for _, n := range []int{1, 2, 15, 16, 17, 300} {
		var vars []string
		var with []api.Type
		for i := range n {
			vars = append(vars, fmt.Sprint("V", i))
			with = append(with, chain(1+i%16, intType))
		}
		for i, name := range vars {
			holdResolve(t, variable(name), append(vars, vars...), append(with, make([]api.Type, n)...), with[i], api.OK)
		}
	}
	holdResolve(t, variable(""), []string{"A", ""}, []api.Type{intType, strType}, strType, api.OK)
	holdResolve(t, function(variable("let"), variable("a b\xff")), []string{"a b\xff", "let"}, []api.Type{intType, strType}, function(strType, intType), api.OK)
}

// P8.1: what stands in a variable's place is no more looked through for variables.
func TestPlacesAreNotResolved(t *testing.T) {
	holdNoResolve(t, variable("A"), []string{"A", "B"}, []api.Type{variable("B"), intType}, api.ErrType)
	holdNoResolve(t, variable("A"), []string{"A"}, []api.Type{variable("A")}, api.ErrType)
	holdNoResolve(t, function(variable("B"), variable("A")), []string{"A", "B"}, []api.Type{function(intType, variable("B")), intType}, api.ErrType)
	// What any and base types have in them is nothing to Norm.
	holdResolve(t, variable("A"), []string{"A"}, []api.Type{node(api.TInt, variable("B"))}, intType, api.OK)
}

// P8.1: ErrArg, ahead of all else.
func TestNotAsMany(t *testing.T) {
	some := []api.Type{intType, strType, nullType}
	names := []string{"A", "B", "C"}
	for _, in := range append(notNormal(), anyType, intType, typ("{a: int}"), written("A -> B"), chain(17, intType), big(201, intType)) {
		for v := range 4 {
			for w := range 4 {
				if v != w {
					holdNoResolve(t, in, names[:v], some[:w], api.ErrArg)
				}
			}
		}
	}
	holdNoResolve(t, intType, []string{"A", "A"}, []api.Type{intType}, api.ErrArg)
	holdResolve(t, intType, nil, []api.Type{}, intType, api.OK)
	holdResolve(t, intType, []string{}, nil, intType, api.OK)
	holdResolve(t, function(intType, strType), nil, nil, function(intType, strType), api.OK)
}

// P8.1: 200 and 201 nodes, 16 and 17 high, with variables and without them, in t.
func TestSizeAndHeight(t *testing.T) {
	vars, with := []string{"A"}, []api.Type{intType}
	a := variable("A")
	for _, last := range []api.Type{a, intType} {
		holdResolve(t, big(199, last), vars, with, big(199, intType), api.OK)
		holdResolve(t, big(200, last), vars, with, big(200, intType), api.OK)
		holdNoResolve(t, big(201, last), vars, with, api.ErrType)
		holdNoResolve(t, big(250, last), vars, with, api.ErrType)
		holdResolve(t, chain(15, last), vars, with, chain(15, intType), api.OK)
		holdResolve(t, chain(16, last), vars, with, chain(16, intType), api.OK)
		holdNoResolve(t, chain(17, last), vars, with, api.ErrType)
		holdNoResolve(t, chain(400, last), vars, with, api.ErrType)
	}
	// What has a hundred Kids is small by its Norm, which it does not come to.
	many := func(n int, kid api.Type) api.Type {
		u := union()
		for range n {
			u.Kids = append(u.Kids, kid)
		}
		return u
	}
	for _, kid := range []api.Type{a, intType} {
		holdResolve(t, many(199, kid), vars, with, intType, api.OK)
		holdNoResolve(t, many(200, kid), vars, with, api.ErrType)
		holdNoResolve(t, many(1<<16, kid), vars, with, api.ErrType)
	}
	for _, other := range []api.Type{variable("B"), leaf(9), {Kind: api.TVar, Name: "A", Names: []string{"a"}}} {
		for _, in := range []api.Type{big(200, other), big(201, other), chain(16, other), chain(17, other)} {
			holdNoResolve(t, in, vars, with, api.ErrType)
			holdNoResolve(t, in, vars, nil, api.ErrArg)
			holdNoResolve(t, in, nil, with, api.ErrArg)
		}
	}
}

// P8.1: what is as great or as high as may be, and what becomes more by what stands in a variable's place.
func TestBecomesTooGreat(t *testing.T) {
	vars := []string{"A"}
	a := variable("A")
	one := func(t api.Type) []api.Type { return []api.Type{t} }
	for size := 4; size <= 201; size++ {
		in := function(a, intType)
		if size+2 <= 200 {
			holdResolve(t, in, vars, one(big(size, intType)), function(big(size, intType), intType), api.OK)
		} else {
			holdNoResolve(t, in, vars, one(big(size, intType)), api.ErrType)
		}
	}
	holdResolve(t, function(a, a), vars, one(big(99, intType)), function(big(99, intType), big(99, intType)), api.OK)
	holdNoResolve(t, function(a, a), vars, one(big(100, intType)), api.ErrType)
	for height := 1; height <= 16; height++ {
		for within := 1; within <= 17; within++ {
			if height+within-1 <= 16 {
				holdResolve(t, chain(height, a), vars, one(chain(within, strType)), chain(height+within-1, strType), api.OK)
			} else {
				holdNoResolve(t, chain(height, a), vars, one(chain(within, strType)), api.ErrType)
			}
		}
	}
	holdResolve(t, a, vars, one(big(200, intType)), big(200, intType), api.OK)
	holdNoResolve(t, a, vars, one(big(201, intType)), api.ErrType)
	holdResolve(t, big(200, a), vars, one(record("")), big(200, record("")), api.OK)
	holdNoResolve(t, big(200, a), vars, one(record("a", intType)), api.ErrType)
	// Members that become one count each for itself, and so does what Norm drops.
	holdNoResolve(t, union(a, a), vars, one(big(100, intType)), api.ErrType)
	holdResolve(t, union(a, a), vars, one(big(99, intType)), big(99, intType), api.OK)
	holdNoResolve(t, node(api.TInt, a), vars, one(chain(16, intType)), api.ErrType)
	holdResolve(t, node(api.TInt, a), vars, one(chain(15, intType)), intType, api.OK)
}

// P8.1: a variable with Names, with Kids, or that is none of vars, wherever it stands in t, also where Norm looks at nothing.
func TestWrongVariables(t *testing.T) {
	vars, with := []string{"A"}, []api.Type{intType}
	for _, bad := range []api.Type{
		{Kind: api.TVar, Name: "A", Names: []string{"a"}}, {Kind: api.TVar, Name: "A", Names: []string{""}}, node(api.TVar), variable("B"), variable("a"), variable("AA"),
		{Kind: api.TVar, Name: "A", Kids: []api.Type{intType}}, {Kind: api.TVar, Name: "A", Kids: []api.Type{variable("A")}},
		{Kind: api.TVar, Name: "A", Names: []string{"a"}, Kids: []api.Type{intType}},
	} {
		for _, in := range []api.Type{
			bad, record("a", bad), record("a b", bad, intType), record("a b", variable("A"), bad), function(bad, intType), function(intType, bad), union(nullType, bad), union(bad, nullType),
			chain(16, bad), big(200, bad), node(api.TInt, bad), node(api.TAny, bad), node(api.TAny, node(api.TStr, intType, node(api.TNull, bad))), function(function(bad, anyType), anyType),
			node(api.TInt, bad, variable("A")), node(api.TInt, variable("A"), bad, variable("A")),
		} {
			holdNoResolve(t, in, vars, with, api.ErrType)
		}
	}
	a := variable("A")
	for _, in := range []api.Type{node(api.TInt, a), node(api.TInt, a, a), {Kind: api.TInt, Name: "x", Names: []string{"y"}, Kids: []api.Type{a}}, node(api.TInt, node(api.TUnion), a)} {
		holdResolve(t, in, vars, with, intType, api.OK)
	}
	holdResolve(t, api.Type{Kind: api.TVar, Name: "A", Names: []string{}, Kids: []api.Type{}}, vars, with, intType, api.OK)
}

// P8.1: Norm's error and Norm's answer, of what becomes of unions.
func TestUnionsBecome(t *testing.T) {
	holdResolved(t, []resolved{
		{"A | B", "A B", "int; int", "int"},
		{"A | B", "A B", "{a: int}; {a: int}", "{a: int}"},
		{"A | B", "A B", "int; null | int", "null | int"},
		{"A | B | C", "A B C", "str | int; null | int; bool | str", "null | bool | int | str"},
		{"A | null", "A", "null", "null"},
		{"A | null", "A", "null | str", "null | str"},
		{"{a: A | int}", "A", "int", "{a: int}"},
		{"A | (int -> int)", "A", "int -> int", "int -> int"},
		{"A | B", "A B", "any; int", ""},
		{"A | int", "A", "any", ""},
		{"A | B", "A B", "{a: int}; {a: str}", ""},
		{"A | B", "A B", "{a: int}; {}", ""},
		{"A | B", "A B", "int -> int; any -> int", ""},
		{"{a: int -> A | {}}", "A", "null | {b: int}", ""},
		{"{a: int -> A | {}}", "A", "null | {}", "{a: int -> null | {}}"},
	})
	one := func(t api.Type) []api.Type { return []api.Type{t} }
	holdResolve(t, union(variable("A")), []string{"A"}, one(typ("null | int")), typ("null | int"), api.OK)
	holdNoResolve(t, union(variable("A")), []string{"A"}, one(anyType), api.ErrType)
	holdResolve(t, variable("A"), []string{"A"}, one(union(strType, union(nullType, intType))), typ("null | int | str"), api.OK)
	holdResolve(t, function(variable("A"), variable("A")), []string{"A"}, one(record("b a", intType, strType)), typ("{a: str, b: int} -> {a: str, b: int}"), api.OK)
	holdResolve(t, record("a", variable("A")), []string{"A"}, one(api.Type{Kind: api.TStr, Name: "x", Names: []string{"y"}, Kids: []api.Type{leaf(9)}}), record("a", strType), api.OK)
}

// P8.1: what Norm refuses, in t and in what stands in a variable's place.
func TestNormRefuses(t *testing.T) {
	for _, bad := range notNormal() {
		kept, e := types.Norm(bad)
		holdResolve(t, variable("A"), []string{"A"}, []api.Type{bad}, kept, e)
		want, e := types.Norm(record("a b", intType, bad))
		holdResolve(t, record("a b", intType, variable("B")), []string{"A", "B"}, []api.Type{intType, bad}, want, e)
	}
	for _, in := range []api.Type{leaf(9), leaf(-1), leaf(api.TUnion), record("a a", intType, variable("A")), record("let", variable("A")), node(api.TFun, variable("A")), union(anyType, variable("A"))} {
		holdNoResolve(t, in, []string{"A"}, []api.Type{strType}, api.ErrType)
	}
}

// P8.1: types that stand for no variable of t may be anything.
func TestTypesForNothing(t *testing.T) {
	for _, other := range append(notNormal(), chain(17, intType), big(201, intType), chain(1000, intType)) {
		holdResolve(t, written("A -> int"), []string{"B", "A", "A"}, []api.Type{other, strType, other}, typ("str -> int"), api.OK)
		holdResolve(t, intType, []string{"A"}, []api.Type{other}, intType, api.OK)
	}
	// What has itself within, or is far too great to be gone through, is refused as soon as that is known.
	ring := function(intType, intType)
	ring.Kids[0] = ring
	holdResolve(t, written("A -> int"), []string{"B", "A"}, []api.Type{ring, strType}, typ("str -> int"), api.OK)
	holdNoResolve(t, written("A -> int"), []string{"A"}, []api.Type{ring}, api.ErrType)
	holdNoResolve(t, ring, []string{"A"}, []api.Type{intType}, api.ErrType)
	wide := intType
	for range 15 {
		wide = node(api.TUnion, slices.Repeat([]api.Type{wide}, 1000)...)
	}
	holdNoResolve(t, wide, []string{"A"}, []api.Type{intType}, api.ErrType)
	holdNoResolve(t, written("A -> int"), []string{"A"}, []api.Type{wide}, api.ErrType)
}

// P8.4
func TestResolveOfNormal(t *testing.T) {
	for _, s := range []string{"any", "null", "bool", "int", "str", "{}", "{a: int}", "int -> int", "null | int", "null | bool | int | str | {} | (any -> any)", "{a: {b: int -> null | str}, c: any}"} {
		for n := range 3 {
			holdResolve(t, typ(s), []string{"A", "B"}[:n], []api.Type{strType, leaf(9)}[:n], typ(s), api.OK)
		}
	}
	holdResolve(t, big(200, intType), nil, nil, big(200, intType), api.OK)
	holdResolve(t, chain(16, intType), nil, nil, chain(16, intType), api.OK)
}
