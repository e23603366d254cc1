package inst

import (
	"fmt"
	"testing"

	"gradus/api"
)

// bounds are variables in order, each a name and a text of what it is bounded by.
func bounds(pairs ...string) []api.Var {
	var l []api.Var
	for i := 0; i < len(pairs); i += 2 {
		l = append(l, api.Var{Name: pairs[i], Bound: written(pairs[i+1])})
	}
	return l
}

func holdBind(t *testing.T, vars []api.Var, l []api.Type, want api.Errno) {
	t.Helper()
	if e := Bind(vars, l); e != want {
		t.Errorf("Bind(%v, %v): %d, not %d", vars, l, e, want)
	}
}

// P8.2: ErrInst, if there are not as many.
func TestBindNotAsMany(t *testing.T) {
	vars := bounds("A", "any", "B", "any", "C", "any")
	l := typs("int; str; null")
	for v := range 4 {
		for n := range 4 {
			want := api.ErrInst
			if v == n {
				want = api.OK
			}
			holdBind(t, vars[:v], l[:n], want)
		}
	}
	holdBind(t, nil, nil, api.OK)
	holdBind(t, []api.Var{}, []api.Type{}, api.OK)
	holdBind(t, nil, []api.Type{leaf(9)}, api.ErrInst)
	holdBind(t, []api.Var{{Bound: leaf(9)}}, nil, api.ErrInst)
}

// P8.2: types that are Sub of their Bound, that fit it alone, and that do neither.
func TestBounds(t *testing.T) {
	for _, c := range []struct {
		bound, of string
		ok        bool
	}{
		{"any", "any", true}, {"any", "int", true}, {"any", "null | {a: any}", true}, {"any", "int -> any", true},
		{"int", "int", true}, {"int", "str", false}, {"int", "any", false}, {"int", "null | int", false}, {"null | int", "int", true}, {"int | null", "null", true}, {"int | null", "int | null", true}, {"int | null", "str | null", false},
		{"{a: int}", "{a: int, b: str}", true}, {"{a: int}", "{a: int}", true}, {"{a: int}", "{b: int}", false}, {"{a: int}", "{}", false}, {"{}", "{a: any}", true},
		{"{a: any}", "{a: any}", true}, {"{a: any}", "{a: int}", false}, {"{a: int}", "{a: any}", false},
		{"{b: int, a: str}", "{a: str, b: int}", true}, {"{b: int, a: str}", "{a: str, b: str}", false},
		{"{a: int} -> null | int", "{} -> int", true}, {"{} -> int", "{a: int} -> int", false}, {"{} -> int", "{} -> null | int", false}, {"any -> any", "any -> any", true}, {"any -> any", "int -> int", false}, {"int -> int", "any -> any", false},
		{"null | bool | int | str | {} | (any -> any)", "any", false}, {"null | bool | int | str | {} | (any -> any)", "null | {a: int} | (any -> any)", true},
	} {
		want := api.ErrInst
		if c.ok {
			want = api.OK
		}
		holdBind(t, bounds("A", c.bound), typs(c.of), want)
		holdBind(t, bounds("B", "any", "A", c.bound, "C", "any"), append(append(typs("str"), typs(c.of)...), strType), want)
	}
}

// P8.2: a Bound that is any bounds nothing, whatever else is in it; one that comes to any is no such one.
func TestBoundOfAny(t *testing.T) {
	for _, bound := range []api.Type{anyType, {Name: "B"}, {Names: []string{"a"}}, node(api.TAny, variable("B")), node(api.TAny, leaf(9)), node(api.TAny, chain(17, intType))} {
		holdBind(t, []api.Var{{Name: "A", Bound: bound}}, typs("int"), api.OK)
		holdBind(t, []api.Var{{Name: "A", Bound: bound}}, typs("any"), api.OK)
		for _, bad := range notNormal() {
			holdBind(t, []api.Var{{Name: "A", Bound: bound}}, []api.Type{bad}, api.ErrInst)
		}
	}
	toAny := bounds("A", "any", "B", "A")
	holdBind(t, toAny, typs("any; any"), api.OK)
	holdBind(t, toAny, typs("any; int"), api.ErrInst)
	holdBind(t, toAny, typs("int; any"), api.ErrInst)
}

// P8.2: a Bound with the names and types of those ahead of it, and of no others.
func TestBoundsAhead(t *testing.T) {
	for _, c := range []struct {
		vars []api.Var
		l    string
		want api.Errno
	}{
		{bounds("A", "any", "B", "A"), "int; int", api.OK},
		{bounds("A", "any", "B", "A"), "int; str", api.ErrInst},
		{bounds("A", "any", "B", "A"), "null | int; int", api.OK},
		{bounds("A", "any", "B", "A"), "int; null | int", api.ErrInst},
		{bounds("A", "any", "B", "{x: A}"), "int; {x: int, y: str}", api.OK},
		{bounds("A", "any", "B", "{x: A}"), "int; {x: str}", api.ErrInst},
		{bounds("A", "{a: int}", "B", "A -> A"), "{a: int, b: int}; {a: int} -> {a: int, b: int, c: int}", api.OK},
		{bounds("A", "{a: int}", "B", "A -> A"), "{a: int, b: int}; {a: int} -> {a: int}", api.ErrInst},
		{bounds("A", "any", "B", "A", "C", "B"), "int | null | str; int | null; null", api.OK},
		{bounds("A", "any", "B", "A", "C", "B"), "int | null | str; int | null; str", api.ErrInst},
		{bounds("A", "any", "B", "A", "C", "A"), "int | null | str; int | null; str", api.OK},
		{bounds("A", "any", "B", "any", "C", "A | B"), "int; null; int | null", api.OK},
		{bounds("A", "any", "B", "any", "C", "A | B"), "int; null; str", api.ErrInst},
		{bounds("A", "any", "B", "any", "C", "A | B"), "int; any; int", api.ErrInst},
		{bounds("A", "any", "B", "any", "C", "A | B"), "{}; {a: int}; {}", api.ErrInst},
		{bounds("A", "any", "B", "any", "C", "A | B"), "{}; {}; {}", api.OK},
		{bounds("A", "A"), "int", api.ErrInst},
		{bounds("A", "{a: A}"), "{a: int}", api.ErrInst},
		{bounds("A", "B", "B", "any"), "int; int", api.ErrInst},
		{bounds("A", "any", "B", "C", "C", "any"), "int; int; int", api.ErrInst},
		{bounds("A", "C"), "int", api.ErrInst},
		{bounds("A", "any", "B", "A | C"), "int; int", api.ErrInst},
		{bounds("A", "any", "A", "A"), "int; int", api.OK},
		{bounds("A", "any", "A", "A"), "int; str", api.ErrInst},
		{bounds("A", "any", "A", "any", "B", "A"), "int; str; int", api.OK},
		{bounds("A", "any", "A", "any", "B", "A"), "int; str; str", api.ErrInst},
		{bounds("A", "int", "B", "str"), "str; int", api.ErrInst},
		{bounds("A", "int", "B", "str"), "int; str", api.OK},
	} {
		holdBind(t, c.vars, typs(c.l), c.want)
	}
}

// P8.2: a Bound that Resolve refuses, and one that becomes too great.
func TestBoundsThatResolveRefuses(t *testing.T) {
	a := variable("A")
	for _, bound := range []api.Type{
		leaf(9), leaf(-1), leaf(api.TUnion), union(anyType), union(anyType, a), record("a a", a, a), record("let", a), node(api.TFun, a), {Kind: api.TVar, Name: "A", Names: []string{"a"}},
		{Kind: api.TVar, Name: "A", Kids: []api.Type{intType}}, node(api.TInt, variable("C")), chain(17, intType), big(201, strType), node(api.TInt, chain(16, intType)),
	} {
		for _, s := range []string{"int", "any", "str", "{}"} {
			holdBind(t, []api.Var{{Name: "A"}, {Name: "B", Bound: bound}}, append(typs("int"), typ(s)), api.ErrInst)
		}
	}
	holdBind(t, []api.Var{{Name: "A", Bound: chain(17, intType)}}, []api.Type{chain(17, intType)}, api.ErrInst)
	holdBind(t, []api.Var{{Name: "A", Bound: chain(16, intType)}}, []api.Type{chain(16, intType)}, api.OK)
	holdBind(t, []api.Var{{Name: "A", Bound: big(201, intType)}}, []api.Type{big(201, intType)}, api.ErrInst)
	holdBind(t, []api.Var{{Name: "A", Bound: big(200, intType)}}, []api.Type{big(200, intType)}, api.OK)
	holdBind(t, []api.Var{{Name: "A"}, {Name: "B", Bound: chain(2, a)}}, []api.Type{chain(15, intType), chain(16, intType)}, api.OK)
	holdBind(t, []api.Var{{Name: "A"}, {Name: "B", Bound: chain(2, a)}}, []api.Type{chain(16, intType), chain(17, intType)}, api.ErrInst)
	// A Bound need not be normal: what is Sub of its Norm will do.
	holdBind(t, []api.Var{{Name: "A", Bound: union(intType, intType, nullType)}}, typs("null"), api.OK)
	holdBind(t, []api.Var{{Name: "A", Bound: api.Type{Kind: api.TInt, Name: "x", Kids: []api.Type{strType}}}}, typs("int"), api.OK)
}

// P8.2: ErrInst of a type that is not normal; being normal does not hang on size and height (chapter 3, Words).
func TestBindNotNormal(t *testing.T) {
	for _, bad := range notNormal() {
		for _, bound := range []api.Type{anyType, intType, record(""), function(anyType, anyType), bad} {
			holdBind(t, []api.Var{{Name: "A", Bound: bound}}, []api.Type{bad}, api.ErrInst)
			holdBind(t, []api.Var{{Name: "B"}, {Name: "A", Bound: bound}, {Name: "C"}}, []api.Type{intType, bad, intType}, api.ErrInst)
		}
		holdBind(t, make([]api.Var, 3), []api.Type{intType, intType, bad}, api.ErrInst)
		holdBind(t, make([]api.Var, 2), []api.Type{bad, intType}, api.ErrInst)
	}
	for _, great := range []api.Type{chain(17, intType), chain(1000, intType), big(201, intType), union(nullType, chain(17, intType))} {
		holdBind(t, []api.Var{{Name: "A"}}, []api.Type{great}, api.OK)
		holdBind(t, []api.Var{{Name: "A"}, {Name: "B", Bound: variable("A")}}, []api.Type{great, great}, api.ErrInst)
	}
	holdBind(t, bounds("A", "{}"), []api.Type{chain(17, intType)}, api.OK)
	holdBind(t, bounds("A", "{a: {a: {}}}"), []api.Type{chain(17, intType)}, api.OK)
	holdBind(t, bounds("A", "{a: {b: {}}}"), []api.Type{chain(17, intType)}, api.ErrInst)
}

// P8.2: as many as one likes, each bounded by the one ahead of it.
func TestManyBounds(t *testing.T) {
	const many = 20000
	vars, l := []api.Var{{Name: "V0"}}, []api.Type{intType}
	for i := range many {
		vars = append(vars, api.Var{Name: fmt.Sprint("V", i+1), Bound: variable(fmt.Sprint("V", i))})
		l = append(l, intType)
	}
	if e := Bind(vars, l); e != api.OK {
		t.Error(e)
	}
	l[many] = strType
	if e := Bind(vars, l); e != api.ErrInst {
		t.Error(e)
	}
	l[many] = intType
	l[many/2] = strType
	if e := Bind(vars, l); e != api.ErrInst {
		t.Error(e)
	}
}
