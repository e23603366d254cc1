package clos

import (
	"fmt"
	"math"
	"strings"
	"testing"

	"gradus/api"
	"gradus/coerce"
)

// P13.1, P13.2, P13.3: the chapter's example.
func TestExample(t *testing.T) {
	p := program(t, "fn main(x) = fn (y: int) => y;")
	sum := numbered(api.COp, api.OpAdd, vari(0), vari(1))
	p.Funs[0].Body = fn(sum)
	want := []api.Flat{{Name: "main.main", Body: makes(1, 0)}, {Name: "main.main'", Caps: 1, Body: sum}}
	if got := Convert(p); !same(got, want) {
		t.Error(whole(got))
	}
	// The text itself has casts of what is added, to numbers, and of the function, to any.
	holdText(t, "fn main(x) = fn (y) => x + y;", "main.main/0 = (2: make1[0])", "main.main'/1 = op((0: v0), (1: v1))")
	holdText(t, "fn main(x): any -> any = fn (y): any => x + y;", "main.main/0 = make1[0]", "main.main'/1 = (2: op((0: v0), (1: v1)))")
}

// kindsWithKids are all kinds of cores that have Kids, each with all that it has beside them, but for functions.
func kindsWithKids() []api.Core {
	n := make([]api.Core, 3)
	field := api.Co{Tags: make([]int, 6), Names: []string{"a"}, Fields: []api.Co{made("any", "int -> int", 4)}}
	return []api.Core{
		{Kind: api.CCall, Kids: n[:2]},
		{Kind: api.CRec, Names: []string{"b", "c", "a"}, Kids: n},
		{Kind: api.CSel, Text: "a", Kids: n[:1]},
		{Kind: api.CWith, Text: "b", Kids: n[:2]},
		{Kind: api.CIf, Kids: n},
		{Kind: api.CIs, N: api.TagStr, Kids: n[:1]},
		{Kind: api.COp, N: api.OpShl, Kids: n[:2]},
		{Kind: api.CEq, Kids: n[:2]},
		{Kind: api.CCat, Kids: n[:2]},
		{Kind: api.CNot, Kids: n[:1]},
		{Kind: api.CNeg, Kids: n[:1]},
		{Kind: api.CLet, Kids: n[:2]},
		{Kind: api.CPrint, Kids: n[:1]},
		{Kind: api.CCast, N: 3, Types: []api.Type{typ("any"), typ("{a: int -> int} | null")}, Kids: n[:1]},
		{Kind: api.CCo, Cos: []api.Co{field}, Kids: n[:1]},
	}
}

// leaves are all kinds of cores without Kids, as check makes them, but for variables.
func leaves() []api.Core {
	return []api.Core{num(math.MinInt), num(0), num(7), str("a\n\x00"), numbered(api.CBool, 1), numbered(api.CBool, 0), core(api.CNull), numbered(api.CGlobal, 1), core(api.CRead)}
}

// P13.2, P13.3: without functions within, each function has its Name, no Caps, and its Body as it was.
func TestWithoutWithin(t *testing.T) {
	if got := Convert(api.Program{}); len(got) != 0 {
		t.Error(whole(got))
	}
	hold := func(bodies ...api.Core) {
		t.Helper()
		p := byHand(bodies...)
		var want []api.Flat
		for i, b := range copyAll(bodies) {
			want = append(want, api.Flat{Name: fmt.Sprint("main.f", i), Body: b})
		}
		if got := Convert(p); !same(got, want) {
			t.Errorf("got  %s\nwant %s", whole(got), whole(want))
		}
	}
	kids := append(leaves(), vari(0))
	for _, k := range kids {
		hold(k)
		hold(num(1), k, num(2))
	}
	for _, c := range kindsWithKids() {
		for at := range kids {
			for i := range c.Kids {
				c.Kids[i] = kids[(at+i)%len(kids)]
			}
			hold(vari(0), c)
			hold(let(c, let(c, list(vari(0), vari(1), vari(2), c))), c)
		}
	}
	// What a program that was checked does not have stays as it is as well.
	hold(api.Core{Kind: api.CMake, N: 4, Text: "t", Ints: []int{3, 1}, Names: []string{"a"}, Types: []api.Type{typ("{a: int -> int}")}, Cos: []api.Co{made("int -> int", "any", 2)}})
}

// P13.1: neither the main function's number, nor the sites, nor the types of functions play a part.
func TestProgram(t *testing.T) {
	p := byHand(fn(vari(0)), num(1), call(fn(vari(1)), num(2)))
	want := []string{"main.f0/0 = make3[0]", "main.f1/0 = 1", "main.f2/0 = call(make4[], 2)", "main.f0'/1 = v0", "main.f2'/0 = v0"}
	for main := -1; main < 4; main++ {
		p.Main, p.Sites = main, p.Sites[:0]
		p.Funs[0].Type = api.Type{Kind: -5, Kids: make([]api.Type, main+1)}
		holdFlats(t, p, want...)
	}
	// Names are as they are, also those that two functions have, or none.
	p.Funs[0].Name, p.Funs[1].Name, p.Funs[2].Name = "", "a'", "a'"
	holdFlats(t, p, "/0 = make3[0]", "a'/0 = 1", "a'/0 = call(make4[], 2)", "'/1 = v0", "a''/0 = v0")
}

// P13.1, P13.2, P13.3: a function in each place where a core can have one, and in all of its places at once; one that
// captures nothing, and one that captures.
func TestEachPlace(t *testing.T) {
	for _, c := range kindsWithKids() {
		all, allMade := copyAll(c), copyAll(c)
		var behind []api.Flat
		for place := range c.Kids {
			with, want := copyAll(c), copyAll(c)
			for i := range c.Kids {
				with.Kids[i], want.Kids[i] = vari(0), vari(0)
			}
			for _, f := range []struct{ within, made, body api.Core }{
				{fn(num(8)), makes(1), num(8)},
				{fn(vari(0)), makes(1, 0), vari(0)},
			} {
				with.Kids[place], want.Kids[place] = f.within, f.made
				holdPlace(t, with, want, api.Flat{Name: "main.f0'", Caps: len(f.made.Ints), Body: f.body})
				// Farther within.
				with.Kids[place], want.Kids[place] = list(num(1), call(f.within, num(2))), list(num(1), call(f.made, num(2)))
				holdPlace(t, with, want, api.Flat{Name: "main.f0'", Caps: len(f.made.Ints), Body: f.body})
			}
			all.Kids[place] = fn(list(num(10+place), vari(0)))
			allMade.Kids[place] = makes(1+place, 0)
			behind = append(behind, api.Flat{Name: "main.f0'", Caps: 1, Body: list(num(10+place), vari(0))})
		}
		holdPlace(t, all, allMade, behind...)
	}
	// Of a function itself: it is its body.
	holdPlace(t, fn(fn(vari(0))), makes(1, 0), api.Flat{Name: "main.f0'", Caps: 1, Body: makes(2, 0)}, api.Flat{Name: "main.f0''", Caps: 1, Body: vari(0)})
}

// holdPlace holds what becomes of a body of a program's one function, and what stands behind that in the list; then the
// same, where the body stands in a function within.
func holdPlace(t *testing.T, body, want api.Core, behind ...api.Flat) {
	t.Helper()
	p := byHand(body)
	holdAll(t, p)
	l := append([]api.Flat{{Name: "main.f0", Body: want}}, behind...)
	if got := Convert(p); !same(got, l) {
		t.Errorf("%s\ngot  %s\nwant %s", whole(body), whole(got), whole(l))
	}
	// Where functions have numbers that are greater by one, and no more is captured.
	p = byHand(num(1), body)
	for i := range l {
		l[i].Name = "main.f1" + strings.TrimPrefix(l[i].Name, "main.f0")
		l[i].Body = copyAll(l[i].Body)
		each(&l[i].Body, func(c *api.Core) {
			if c.Kind == api.CMake {
				c.N++
			}
		})
	}
	l = append([]api.Flat{{Name: "main.f0", Body: num(1)}}, l...)
	if got := Convert(p); !same(got, l) {
		t.Errorf("%s\ngot  %s\nwant %s", whole(p), whole(got), whole(l))
	}
	holdAll(t, byHand(fn(body), call(body, fn(let(num(1), fn(body))))))
}

// P13.1: the order in the list.
func TestOrder(t *testing.T) {
	inner := func(n int) api.Core { return fn(num(n)) }
	// Those of one body: from the outside in, Kids in their order.
	holdFlats(t, byHand(call(call(inner(1), call(inner(2), inner(3))), let(inner(4), list(inner(5), inner(6))))),
		"main.f0/0 = call(call(make1[], call(make2[], make3[])), let(make4[], {k0: make5[], k1: make6[]}))",
		"main.f0'/0 = 1", "main.f0'/0 = 2", "main.f0'/0 = 3", "main.f0'/0 = 4", "main.f0'/0 = 5", "main.f0'/0 = 6")
	// All of a body ahead of what stands in those that it has.
	holdFlats(t, byHand(list(fn(list(inner(3), inner(4))), fn(inner(5)), inner(2))),
		"main.f0/0 = {k0: make1[], k1: make2[], k2: make3[]}",
		"main.f0'/0 = {k0: make4[], k1: make5[]}", "main.f0'/0 = make6[]", "main.f0'/0 = 2",
		"main.f0''/0 = 3", "main.f0''/0 = 4", "main.f0''/0 = 5")
	// All functions of the program, then what stands in them, one after the other, then what stands in that.
	holdFlats(t, byHand(fn(fn(inner(1))), num(2), call(inner(3), fn(call(inner(4), inner(5)))), inner(6)),
		"main.f0/0 = make4[]", "main.f1/0 = 2", "main.f2/0 = call(make5[], make6[])", "main.f3/0 = make7[]",
		"main.f0'/0 = make8[]", "main.f2'/0 = 3", "main.f2'/0 = call(make9[], make10[])", "main.f3'/0 = 6",
		"main.f0''/0 = make11[]", "main.f2''/0 = 4", "main.f2''/0 = 5",
		"main.f0'''/0 = 1")
	// The same function in two places is two.
	twice := fn(inner(1))
	holdFlats(t, byHand(call(twice, twice), twice),
		"main.f0/0 = call(make2[], make3[])", "main.f1/0 = make4[]",
		"main.f0'/0 = make5[]", "main.f0'/0 = make6[]", "main.f1'/0 = make7[]",
		"main.f0''/0 = 1", "main.f0''/0 = 1", "main.f1''/0 = 1")
	holdText(t, "fn main(x) = {a: fn (y) => {b: fn (z) => 3, c: fn (z) => 4}, d: if x then fn (y) => 2 else g}.a; fn g(x) = fn (y: int) => fn (z: int) => 5; fn h(x: int): int = x;",
		"main.main/0 = (3: {a: make3[], d: if((0: v0), (1: make4[]), (2: g1))}.a)", "main.g/0 = (4: make5[])", "main.h/0 = v0",
		"main.main'/0 = {b: make6[], c: make7[]}", "main.main'/0 = 2", "main.g'/0 = make8[]",
		"main.main''/0 = 3", "main.main''/0 = 4", "main.g''/0 = 5")
}

// P13.2: Names, as deep as functions stand.
func TestNames(t *testing.T) {
	body, want := num(5), []string{}
	for deep := range 40 {
		body = fn(body)
		name := "main.f0" + strings.Repeat("'", deep)
		want = append(want, fmt.Sprintf("%s/0 = make%d[]", name, deep+1))
	}
	holdFlats(t, byHand(body), append(want, "main.f0"+strings.Repeat("'", 40)+"/0 = 5")...)
	// Of a module that is not main, and of instances.
	p := program(t, "import lib: twice; fn main(x) = {a: twice[int](fn (n: int): int => n), b: twice[{c: str}], d: fn (y) => fn (z) => y}; fn id[A](x: A): A = x;",
		"lib:: export fn twice[A](f: A -> A): A -> A = fn (x: A): A => (fn (y: A): A => f(y))(f(x));")
	holdAll(t, p)
	var got []string
	for _, f := range Convert(p) {
		got = append(got, f.Name)
	}
	const all = "main.main|lib.twice[int]|lib.twice[{c: str}]|main.main'|main.main'|lib.twice[int]'|lib.twice[{c: str}]'|main.main''|lib.twice[int]''|lib.twice[{c: str}]''"
	if strings.Join(got, "|") != all {
		t.Errorf("%q", got)
	}
}

// P13.2, P13.3: what is captured, and the numbers of it.
func TestCaptures(t *testing.T) {
	for _, c := range []struct {
		body api.Core
		want string
	}{
		// Nothing; what the outer one takes; both, and its own.
		{fn(vari(1)), "0 = make1[]; 0 = v0"},
		{fn(num(1)), "0 = make1[]; 0 = 1"},
		{fn(vari(0)), "0 = make1[0]; 1 = v0"},
		{fn(call(vari(1), vari(0))), "0 = make1[0]; 1 = call(v1, v0)"},
		// What the outer one's CLet bring: one, some, all.
		{let(num(5), fn(vari(1))), "0 = let(5, make1[1]); 1 = v0"},
		{let(num(5), fn(vari(2))), "0 = let(5, make1[]); 0 = v0"},
		{let(num(5), fn(call(vari(2), vari(1)))), "0 = let(5, make1[1]); 1 = call(v1, v0)"},
		{let(num(5), let(num(6), fn(list(vari(2), vari(0), vari(3))))), "0 = let(5, let(6, make1[0 2])); 2 = {k0: v1, k1: v0, k2: v2}"},
		{let(num(5), let(num(6), fn(list(vari(3), vari(2), vari(1), vari(0))))), "0 = let(5, let(6, make1[0 1 2])); 3 = {k0: v3, k1: v2, k2: v1, k3: v0}"},
		{let(num(5), let(num(6), let(num(7), fn(call(vari(3), vari(1)))))), "0 = let(5, let(6, let(7, make1[1 3]))); 2 = call(v1, v0)"},
		// A variable that is used many times is captured once.
		{let(num(5), fn(list(vari(1), vari(2), vari(1), vari(1), vari(0), vari(1), vari(0)))), "0 = let(5, make1[0 1]); 2 = {k0: v1, k1: v2, k2: v1, k3: v1, k4: v0, k5: v1, k6: v0}"},
		// What only a function further within has, and what it captures itself of both.
		{fn(fn(vari(0))), "0 = make1[0]; 1 = make2[0]; 1 = v0"},
		{fn(fn(vari(1))), "0 = make1[]; 0 = make2[0]; 1 = v0"},
		{fn(fn(vari(2))), "0 = make1[]; 0 = make2[]; 0 = v0"},
		{fn(fn(list(vari(2), vari(1), vari(0)))), "0 = make1[0]; 1 = make2[0 1]; 2 = {k0: v2, k1: v1, k2: v0}"},
		{let(num(5), fn(fn(vari(1)))), "0 = let(5, make1[1]); 1 = make2[0]; 1 = v0"},
		{let(num(5), fn(fn(call(vari(2), vari(3))))), "0 = let(5, make1[]); 0 = make2[0]; 1 = call(v0, v1)"},
		{let(num(5), let(num(6), fn(call(fn(vari(2)), fn(vari(1)))))), "0 = let(5, let(6, make1[1 2])); 2 = call(make2[1], make3[0]); 1 = v0; 1 = v0"},
		{let(num(5), fn(fn(fn(fn(call(vari(1), vari(3))))))), "0 = let(5, make1[1]); 1 = make2[0]; 1 = make3[0 1]; 2 = make4[0 1]; 2 = call(v0, v1)"},
		// What the one around has captured itself, beside what it brings.
		{let(num(5), fn(let(vari(1), fn(list(vari(1), vari(3), vari(4)))))), "0 = let(5, make1[1]); 1 = let(v0, make2[0 2]); 2 = {k0: v0, k1: v1, k2: v2}"},
		{let(num(5), let(num(6), fn(let(num(7), fn(let(num(8), fn(list(vari(7), vari(6), vari(4), vari(2), vari(0))))))))),
			"0 = let(5, let(6, make1[0 2])); 2 = let(7, make2[0 1 3]); 3 = let(8, make3[0 1 2 4]); 4 = {k0: v4, k1: v3, k2: v2, k3: v1, k4: v0}"},
		// In a function that stands in the first Kid of what brings a variable, and in one beside it.
		{let(fn(vari(0)), fn(vari(1))), "0 = let(make1[0], make2[1]); 1 = v0; 1 = v0"},
		{list(let(num(5), fn(vari(1))), fn(vari(0)), let(num(6), let(num(7), fn(vari(2))))), "0 = {k0: let(5, make1[1]), k1: make2[0], k2: let(6, let(7, make3[2]))}; 1 = v0; 1 = v0; 1 = v0"},
	} {
		p := byHand(c.body)
		holdAll(t, p)
		var got []string
		for _, s := range short(Convert(p)) {
			_, s, _ = strings.Cut(s, "/")
			got = append(got, s)
		}
		if s := strings.Join(got, "; "); s != c.want {
			t.Errorf("%s\ngot  %s\nwant %s", brief(c.body), s, c.want)
		}
	}
}

// P13.2, P13.3: a CLet within has numbers that those of another one have, which is beside it: its own are not captured.
func TestOwnNumbers(t *testing.T) {
	for _, c := range []struct {
		body api.Core
		want string
	}{
		// v2 is the function's own, though there is a variable 2 of the one around, beside it.
		{let(num(5), list(let(num(6), vari(2)), fn(let(num(7), list(vari(3), vari(2), vari(1)))))), "0 = let(5, {k0: let(6, v2), k1: make1[1]}); 1 = let(7, {k0: v2, k1: v1, k2: v0})"},
		{fn(let(num(7), call(vari(1), vari(2)))), "0 = make1[]; 0 = let(7, call(v0, v1))"},
		{fn(let(num(7), fn(vari(2)))), "0 = make1[]; 0 = let(7, make2[1]); 1 = v0"},
		// Two side by side have the same number.
		{fn(call(let(num(6), vari(2)), let(num(7), list(vari(2), vari(0))))), "0 = make1[0]; 1 = call(let(6, v2), let(7, {k0: v2, k1: v0}))"},
		{let(num(5), let(num(6), fn(list(let(num(7), vari(4)), let(num(8), let(num(9), call(vari(4), vari(5)))), vari(2))))),
			"0 = let(5, let(6, make1[2])); 1 = {k0: let(7, v2), k1: let(8, let(9, call(v2, v3))), k2: v0}"},
		// One in the first Kid of another one has the number that the other one's has.
		{let(let(num(5), vari(1)), vari(1)), "0 = let(let(5, v1), v1)"},
		{fn(let(let(num(5), call(vari(2), vari(1))), call(vari(2), vari(0)))), "0 = make1[0]; 1 = let(let(5, call(v2, v1)), call(v2, v0))"},
		{fn(let(let(num(5), fn(vari(2))), fn(vari(2)))), "0 = make1[]; 0 = let(let(5, make2[1]), make3[1]); 1 = v0; 1 = v0"},
		{let(num(1), fn(let(let(let(num(5), vari(3)), let(vari(3), vari(4))), let(vari(3), call(vari(4), vari(1)))))),
			"0 = let(1, make1[1]); 1 = let(let(let(5, v2), let(v2, v3)), let(v2, call(v3, v0)))"},
	} {
		p := byHand(c.body)
		holdAll(t, p)
		var got []string
		for _, s := range short(Convert(p)) {
			_, s, _ = strings.Cut(s, "/")
			got = append(got, s)
		}
		if s := strings.Join(got, "; "); s != c.want {
			t.Errorf("%s\ngot  %s\nwant %s", brief(c.body), s, c.want)
		}
	}
}

// P13.3: numbers rise as numbers do, also where there are many, whatever their order in the body.
func TestManyCaptured(t *testing.T) {
	const many = 300
	var uses []api.Core
	var ints []int
	var want []api.Core
	for i := many; i >= 0; i-- {
		uses = append(uses, vari(i))
		want = append(want, vari(i))
	}
	for i := range many + 1 {
		ints = append(ints, i)
	}
	body, outer := fn(list(uses...)), makes(1, ints...)
	for range many {
		body, outer = let(vari(0), body), let(vari(0), outer)
	}
	got := Convert(byHand(body))
	if !same(got, []api.Flat{{Name: "main.f0", Body: outer}, {Name: "main.f0'", Caps: many + 1, Body: list(want...)}}) {
		t.Error(whole(got))
	}
}

// P13.3: all of CMake but N and Ints is noughts, whatever the function had beside its body; all else has what it had.
func TestNothingElse(t *testing.T) {
	f := fn(vari(0))
	f.N, f.Text, f.Ints, f.Names, f.Types, f.Cos = 9, "t", []int{1, 2}, []string{"n"}, []api.Type{typ("int")}, []api.Co{coerce.Id()}
	want := []api.Flat{{Name: "main.f0", Body: makes(1, 0)}, {Name: "main.f0'", Caps: 1, Body: vari(0)}}
	if got := Convert(byHand(f)); !same(got, want) {
		t.Error(whole(got))
	}
	for kind := range api.CKinds {
		if kind == api.CFn {
			continue
		}
		c := api.Core{Kind: kind, N: 1, Text: "t", Ints: []int{3, 2}, Names: []string{"a", "b"}, Types: []api.Type{typ("{a: int -> any}"), {Kind: 99, Name: "n"}}, Cos: []api.Co{made("any", "int -> int", 2), {}}, Kids: []api.Core{num(5), vari(0)}}
		want := []api.Flat{{Name: "main.f0", Body: makes(1, 0)}, {Name: "main.f0'", Caps: 1, Body: copyAll(c)}}
		if got := Convert(byHand(fn(c))); !same(got, want) {
			t.Errorf("%d: %s", kind, whole(got))
		}
	}
}
