package clos

import (
	"math"
	"reflect"
	"strings"
	"testing"

	"gradus/api"
	"gradus/coerce"
	"gradus/norm"
)

// holdEnds holds that Convert ends, panics nowhere, and changes nothing of what is handed in. It hands on what is
// answered.
func holdEnds(t *testing.T, p api.Program) []api.Flat {
	t.Helper()
	before := copyAll(p)
	got := Convert(p)
	if !reflect.DeepEqual(p, before) {
		t.Errorf("%s has become %s", whole(before), whole(p))
	}
	return got
}

// P1: programs that lack something. What there is of them stays.
func TestLacking(t *testing.T) {
	for _, p := range []api.Program{
		{}, {Main: 5}, {Main: -1}, {Main: math.MinInt}, {Funs: []api.Fun{}, Sites: []api.Site{}}, {Funs: make([]api.Fun, 3), Main: 3},
		{Sites: []api.Site{{Module: -1, Line: -2, Col: math.MaxInt}}}, byHand(core(-1)), byHand(core(api.CKinds, core(math.MaxInt, core(math.MinInt)))),
		byHand(make([]api.Core, 300)...), {Funs: []api.Fun{{}, {Name: "\xff"}}},
	} {
		got := holdEnds(t, p)
		if len(got) != len(p.Funs) {
			t.Errorf("%s has become %s", whole(p), whole(got))
			continue
		}
		for i, f := range p.Funs {
			if !same(got[i], api.Flat{Name: f.Name, Body: f.Body}) {
				t.Errorf("%s has become %s", whole(p), whole(got))
			}
		}
	}
	for kind := -1; kind <= api.CKinds; kind++ {
		for kids := range 5 {
			for lists := range 3 {
				k := numbered(kind, 1, make([]api.Core, kids)...)
				k.Types, k.Cos, k.Ints, k.Names = make([]api.Type, lists), make([]api.Co, lists), make([]int, lists), make([]string, lists)
				for i := range k.Kids {
					k.Kids[i] = fn(vari(i - 1))
				}
				holdEnds(t, byHand(k, fn(k), core(api.CCall, k, k), fn(let(k, fn(k)))))
				inner := core(kind, k, k, fn(k))
				holdEnds(t, byHand(inner, fn(inner)))
			}
		}
	}
}

// P1: variables that are none. Those of a function that is right are told apart from them.
func TestWrongVariables(t *testing.T) {
	for _, n := range []int{-1, -2, math.MinInt, 1, 2, 3, 4, 5, 100, 1 << 31, math.MaxInt} {
		for _, body := range []api.Core{
			vari(n), fn(vari(n)), fn(fn(vari(n))), let(vari(n), fn(let(vari(n), fn(vari(n))))), list(vari(n), let(num(1), vari(n)), fn(vari(n))),
			numbered(api.CMake, n), numbered(api.CGlobal, n),
			{Kind: api.CMake, N: n, Ints: []int{n, 0, n}}, fn(api.Core{Kind: api.CMake, N: n, Ints: []int{n, 0, n}}),
		} {
			holdEnds(t, byHand(body))
			holdEnds(t, byHand(num(1), fn(body), call(body, fn(list(body, vari(0))))))
		}
	}
	got := Convert(byHand(let(num(1), fn(list(vari(1), vari(-1), vari(2))))))
	if len(got) != 2 || got[1].Caps != 1 || !same(got[0].Body, let(num(1), makes(1, 1))) || got[1].Body.Kids[0].N != 0 || got[1].Body.Kids[2].N != 1 {
		t.Error(whole(got))
	}
}

// P1: what stands within itself comes to an end, and so does what stands in so many places that it is all but endless.
func TestEndless(t *testing.T) {
	noughts := func(what string, p api.Program) {
		t.Helper()
		if got := Convert(p); len(got) != 0 {
			t.Errorf("%s: not noughts", what)
		}
	}
	for kind := range api.CKinds {
		kids := make([]api.Core, 3)
		c := api.Core{Kind: kind, Kids: kids}
		for at := range kids {
			for i := range kids {
				kids[i] = num(i)
			}
			kids[at] = c
			noughts("a core", byHand(num(1), c))
			noughts("a core in a function", byHand(fn(c)))
			kids[at] = fn(c)
			noughts("a core with a function", byHand(c))
		}
		alone := api.Core{Kind: kind, Kids: make([]api.Core, 1)}
		alone.Kids[0] = alone
		noughts("a core alone", byHand(alone))
	}
	for _, kind := range []int{api.CCall, api.CLet, api.CCast, api.CRec} {
		many, functions := vari(0), vari(0)
		for range 60 {
			many = core(kind, many, many)
			functions = core(kind, fn(functions), fn(functions))
		}
		noughts("many cores", byHand(many))
		noughts("many functions", byHand(functions))
	}
	endlessTypes(noughts)
}

// endlessTypes are types and coercions that are endless, or all but that, in cores.
func endlessTypes(noughts func(string, api.Program)) {
	loop := api.Type{Kind: api.TFun, Kids: make([]api.Type, 2)}
	loop.Kids[0] = loop
	co := api.Co{Tags: make([]int, api.Tags), Names: []string{"a"}, Fields: make([]api.Co, 1), Fun: make([]api.Co, 2)}
	fields, fun := co, co
	fields.Fields = []api.Co{coerce.Id()}
	fields.Fields[0] = fields
	fun.Fun[1] = fun
	manyTypes, manyCos := typ("int"), coerce.Id()
	for range 60 {
		manyTypes = api.Type{Kind: api.TFun, Kids: []api.Type{manyTypes, manyTypes}}
		manyCos = api.Co{Tags: make([]int, api.Tags), Names: []string{"a"}, Fields: []api.Co{manyCos}, Fun: []api.Co{manyCos, manyCos}}
	}
	for _, kind := range []int{api.CCast, api.CMake, api.CVar} {
		for _, is := range []api.Type{loop, manyTypes} {
			noughts("a type", byHand(fn(api.Core{Kind: kind, Types: []api.Type{is, is}, Kids: []api.Core{num(1)}})))
		}
		for _, c := range []api.Co{fields, fun, manyCos} {
			noughts("a coercion", byHand(fn(api.Core{Kind: kind, Cos: []api.Co{c}, Kids: []api.Core{num(1)}})))
		}
	}
}

// The type of a function of a program plays no part, whatever it is.
func TestEndlessTypeOfFunction(t *testing.T) {
	loop := api.Type{Kind: api.TFun, Kids: make([]api.Type, 2)}
	loop.Kids[0] = loop
	p := byHand(fn(vari(0)))
	p.Funs[0].Type = loop
	if got := strings.Join(short(Convert(p)), "; "); got != "main.f0/0 = make1[0]; main.f0'/1 = v0" {
		t.Error(got)
	}
}

// P1: as much within one another as the document's bound admits.
func TestNested(t *testing.T) {
	const high = 1 << 16
	for i, around := range []func(api.Core) api.Core{
		func(c api.Core) api.Core { return core(api.CNot, c) },
		func(c api.Core) api.Core { return let(num(1), c) },
		func(c api.Core) api.Core { return let(c, num(1)) },
		func(c api.Core) api.Core { return cast(0, "any", "int", c) },
	} {
		for extra := range 2 {
			body := fn(vari(0))
			for range high - 1 + extra {
				body = around(body)
			}
			got := Convert(byHand(body, num(1)))
			if extra > 0 {
				if len(got) != 0 {
					t.Errorf("%d: more than may be is not noughts", i)
				}
				continue
			}
			if len(got) != 3 || got[2].Caps != 1 || !same(got[2].Body, vari(0)) {
				t.Errorf("%d: %d functions", i, len(got))
			}
		}
	}
}

// P1, P13.2: many functions within one another. The innermost one's variable is handed on through all of them.
func TestManyFunctions(t *testing.T) {
	const high = 1 << 13
	body := call(vari(0), vari(high))
	for range high {
		body = fn(body)
	}
	got := Convert(byHand(body))
	if len(got) != high+1 {
		t.Fatal(len(got))
	}
	for i, f := range got {
		want := makes(i+1, 0)
		caps := 1
		switch i {
		case 0:
			caps = 0
		case high:
			want = call(vari(0), vari(1))
		}
		if f.Caps != caps || f.Name != "main.f0"+strings.Repeat("'", i) || !same(f.Body, want) {
			t.Fatalf("%d: %d, %s", i, f.Caps, whole(f.Body))
		}
	}
	// Beyond the document's bound: the names alone would have more than 2^31 - 1 bytes.
	deep := vari(0)
	for range 1 << 16 {
		deep = fn(deep)
	}
	if got := Convert(byHand(deep)); len(got) != 0 {
		t.Error(len(got))
	}
}

// P1: what is captured counts, too, and where there is no room for it the call ends soon.
func TestNoRoom(t *testing.T) {
	const variables, high = 1 << 10, 1 << 12
	var uses []api.Core
	for v := range variables {
		uses = append(uses, vari(v))
	}
	body := list(uses...)
	for range high {
		body = fn(body)
	}
	p := byHand(body)
	// What they capture: the first ones just what stands around them.
	numbers := 0
	for i := range high {
		numbers += min(i+1, variables)
	}
	names := 0
	for i := range high + 1 {
		names += len("main.f0") + i
	}
	need := room(numbers*numberBytes + names + (high+1)*flatBytes)
	for _, spare := range []room{0, 1000, -1, -need + 1} {
		left := need + spare
		list := lookThrough(p.Funs, &left)
		if spare >= 0 && (left != spare || len(list) != 1) || spare < 0 && left >= 0 {
			t.Errorf("with %d of %d: %d are left", need+spare, need, left)
		}
	}
}

// spoilOne changes one thing somewhere in a value.
func (c *chance) spoilOne(v reflect.Value) {
	switch v.Kind() {
	case reflect.Int:
		v.SetInt(int64([]int{-1, 0, 1, 2, 3, 4, 5, 6, 8, 18, 21, 22, 23, 24, 1 << 40}[c.below(15)]))
	case reflect.String:
		v.SetString([]string{"", "a", "b", "c", "zz", "\x00"}[c.below(6)])
	case reflect.Struct:
		c.spoilOne(v.Field(c.below(v.NumField())))
	case reflect.Slice:
		switch n := v.Len(); {
		case n > 0 && c.below(5) > 0:
			c.spoilOne(v.Index(c.below(n)))
		case n > 0 && c.below(2) == 0:
			v.Set(v.Slice(0, n-1))
		case n > 0 && c.below(3) == 0:
			v.SetZero()
		default:
			v.Set(reflect.Append(v, reflect.New(v.Type().Elem()).Elem()))
		}
	}
}

// P1: what check has not answered ends, too.
func TestSpoilt(t *testing.T) {
	c := chance(4242)
	p := program(t, fullText)
	all := []api.Program{p, norm.Norm(p, false), norm.Norm(p, true)}
	for i := range 3000 {
		given := copyAll(all[i%3])
		for range 1 + c.below(6) {
			c.spoilOne(reflect.ValueOf(&given).Elem())
		}
		if got := holdEnds(t, given); len(got) < len(given.Funs) {
			t.Fatalf("%s\nhas become %s", whole(given), whole(got))
		}
	}
}
