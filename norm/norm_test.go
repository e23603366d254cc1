package norm

import (
	"math"
	"slices"
	"testing"

	"gradus/api"
	"gradus/coerce"
)

// P12.1, P12.2: the chapter's example.
func TestExample(t *testing.T) {
	p := program(t, "fn main(x) = 1;")
	if p.Funs[0].Body.Kind != api.CCast {
		t.Fatal(whole(p))
	}
	want := copyAll(p)
	want.Funs[0].Body = on(api.Co{Tags: make([]int, 6)}, num(1))
	if got := Norm(p, false); !same(got, want) {
		t.Error(whole(got))
	}
	want.Funs[0].Body = num(1)
	if got := Norm(p, true); !same(got, want) {
		t.Error(whole(got))
	}
}

// kindsWithKids are all kinds of cores that have Kids, each with all that it has beside them.
func kindsWithKids() []api.Core {
	n, rec, two := make([]api.Core, 3), []string{"b", "c", "a"}, []api.Type{typ("any"), typ("int")}
	return []api.Core{
		{Kind: api.CFn, Kids: n[:1]},
		{Kind: api.CCall, Kids: n[:2]},
		{Kind: api.CRec, Names: rec, Kids: n},
		{Kind: api.CSel, Text: "a", Kids: n[:1]},
		{Kind: api.CWith, Text: "b", Kids: n[:2]},
		{Kind: api.CIf, Kids: n},
		{Kind: api.CIs, N: api.TagStr, Kids: n[:1]},
		{Kind: api.COp, N: api.OpShl, Kids: n[:2]},
		{Kind: api.CEq, Kids: n[:2]},
		{Kind: api.CCat, Kids: n[:2]},
		{Kind: api.CNot, Kids: n[:1]},
		{Kind: api.CNeg, Kids: n[:1]},
		{Kind: api.CLet, Kids: n[:2]},
		{Kind: api.CPrint, Kids: n[:1]},
		{Kind: api.CCast, N: 3, Types: two, Kids: n[:1]},
		{Kind: api.CCo, Cos: []api.Co{onField("a", tags(2))}, Kids: n[:1]},
	}
}

// P12.1, P12.2: a cast in each place where a core can have one, and in all of its places at once. With true it is the
// same, where the core is no coercion itself.
func TestEachPlace(t *testing.T) {
	toStr := func(site int, kid api.Core) (api.Core, api.Core) {
		label := 2*site + 2
		return cast(site, "any", "str", kid), on(tags(label, label, label, 0, label, label), kid)
	}
	for _, c := range kindsWithKids() {
		all, wantAll := copyAll(c), copyAll(c)
		for place := range c.Kids {
			with, want := copyAll(c), copyAll(c)
			for i := range c.Kids {
				with.Kids[i] = variable(10 + i)
				want.Kids[i] = variable(10 + i)
				all.Kids[i], wantAll.Kids[i] = toStr(20+i, variable(10+i))
			}
			with.Kids[place], want.Kids[place] = toStr(5, variable(7))
			holdPlace(t, with, want)
			// A cast of a cast, and one that is farther within.
			inner, wantInner := toStr(6, variable(7))
			with.Kids[place], want.Kids[place] = toStr(5, inner)
			want.Kids[place].Kids[0] = wantInner
			holdCasts(t, with, want)
			with.Kids[place], want.Kids[place] = fn(let(num(1), inner)), fn(let(num(1), wantInner))
			holdPlace(t, with, want)
		}
		holdPlace(t, all, wantAll)
	}
}

// holdPlace holds what becomes of a core with casts in its Kids, with false and, if it is none itself, with true.
func holdPlace(t *testing.T, c, want api.Core) {
	t.Helper()
	holdCasts(t, c, want)
	if c.Kind != api.CCast && c.Kind != api.CCo {
		holdBody(t, true, c, want)
		holdBody(t, true, fn(fn(c)), fn(fn(want)))
	}
}

func holdCasts(t *testing.T, c, want api.Core) {
	t.Helper()
	if c.Kind == api.CCast {
		want = on(tags(8, 8, 0, 8, 8, 8), want.Kids[0])
	}
	holdBody(t, false, c, want)
	holdBody(t, false, fn(fn(c)), fn(fn(want)))
}

// P12.1: labels, and what else Make tells of two types.
func TestLabels(t *testing.T) {
	for _, site := range []int{0, 1, 2, 3, 16, 255, 65536, 1 << 40} {
		own, other := 2*site+2, 2*site+3
		for _, c := range []struct {
			from, to string
			want     api.Co
		}{
			{"any", "any", tags()},
			{"int", "any", tags()},
			{"any", "null", tags(0, own, own, own, own, own)},
			{"any", "int", tags(own, own, 0, own, own, own)},
			{"int | null", "int", tags(own)},
			{"any", "int -> any", api.Co{Tags: tags(own, own, own, own, own).Tags}},
			{"int -> any", "any", onFun(tags(other, other, 0, other, other, other), tags())},
			{"any -> any", "any -> int", onFun(tags(), tags(own, own, 0, own, own, own))},
			{"any -> any -> any", "any -> int -> any", tags()},
			{"any -> any -> any", "any -> any -> int", onFun(tags(), onFun(tags(), tags(own, own, 0, own, own, own)))},
			{"(int -> any) -> any", "any", onFun(tags(other, other, other, other, other), tags())},
			{"(any -> int) -> any", "any", onFun(api.Co{
				Tags: tags(other, other, other, other, other).Tags,
				Fun:  []api.Co{tags(), tags(other, other, 0, other, other, other)},
			}, tags())},
			{"{a: any} | null", "{a: int}", api.Co{Tags: tags(own).Tags, Names: []string{"a"}, Fields: []api.Co{tags(own, own, 0, own, own, own)}}},
			{"any", "{b: any, a: any}", api.Co{
				Tags:  tags(own, own, own, own, 0, own).Tags,
				Needs: []api.Need{{Name: "a", Label: own}, {Name: "b", Label: own}},
			}},
		} {
			holdBody(t, false, cast(site, c.from, c.to, variable(0)), on(c.want, variable(0)))
			if same(c.want, coerce.Id()) {
				holdBody(t, true, cast(site, c.from, c.to, variable(0)), variable(0))
			} else {
				holdBody(t, true, cast(site, c.from, c.to, variable(0)), on(c.want, variable(0)))
			}
		}
	}
}

// P12.1: nothing of a cast but its Types, its N and its Kid comes to be in the coercion.
func TestNothingElse(t *testing.T) {
	c := cast(1, "any", "null", variable(2))
	c.Text, c.Ints, c.Names, c.Cos = "t", []int{1, 2}, []string{"n"}, []api.Co{tags(9)}
	for _, trim := range []bool{false, true} {
		holdBody(t, trim, c, on(tags(0, 4, 4, 4, 4, 4), variable(2)))
	}
}

// P12.1, P12.2: where there are neither casts nor coercions, all is as it was, whatever stands in cores.
func TestAllElseStays(t *testing.T) {
	kids := []api.Core{num(math.MinInt), str("a\n\x00"), numbered(api.CBool, 1), core(api.CNull), variable(255), numbered(api.CGlobal, 7), core(api.CRead)}
	for _, c := range kindsWithKids() {
		if c.Kind == api.CCast || c.Kind == api.CCo {
			continue
		}
		for _, kid := range kids {
			for i := range c.Kids {
				c.Kids[i] = kid
			}
			for _, trim := range []bool{false, true} {
				holdBody(t, trim, c, copyAll(c))
			}
		}
	}
	// Also what these kinds do not have.
	odd := api.Core{Kind: api.CMake, N: 4, Text: "t", Ints: []int{3, 1}, Names: []string{"a"}, Types: []api.Type{typ("{a: int -> int}")}, Cos: []api.Co{onFun(tags(2), tags(3))}}
	for _, trim := range []bool{false, true} {
		holdBody(t, trim, odd, copyAll(odd))
		holdBody(t, trim, fn(odd), fn(copyAll(odd)))
	}
}

// P12.1: the program's functions by their numbers, with their names and types, which one is main, all sites.
func TestProgramStays(t *testing.T) {
	p := program(t,
		"import lib: twice, id; fn f(x) = twice[int](fn (n) => n)(x); fn g(x: {a: any}): {a: int} = id[{a: any}](x); fn main(x) = g({a: f(2)}).a;",
		"lib:: fn h(x) = x; export fn id[A](x: A): A = h(x); export fn twice[A](f: A -> A): A -> A = fn (x: A): A => f(f(id[A](x)));")
	if len(p.Funs) != 7 || p.Main != 2 || len(p.Sites) < 8 {
		t.Fatal(whole(p))
	}
	for _, trim := range []bool{false, true} {
		got := Norm(p, trim)
		if got.Main != p.Main || !slices.Equal(got.Sites, p.Sites) || len(got.Funs) != len(p.Funs) {
			t.Errorf("%v: %s", trim, whole(got))
		}
		for i, f := range got.Funs {
			if f.Name != p.Funs[i].Name || !same(f.Type, p.Funs[i].Type) {
				t.Errorf("%v: the function %d: %s", trim, i, whole(f))
			}
		}
		for main := -1; main < 9; main++ {
			q := copyAll(p)
			q.Main, q.Sites = main, q.Sites[:main+1]
			if got := Norm(q, trim); got.Main != main || !slices.Equal(got.Sites, q.Sites) {
				t.Errorf("%v: %s", trim, whole(got))
			}
		}
	}
}

// holdText holds the bodies of a program's functions, in order, with false and with true: each is its name and what it is in short.
func holdText(t *testing.T, text string, plain, trims []string) {
	t.Helper()
	p := program(t, text)
	for trim, want := range map[bool][]string{false: plain, true: trims} {
		var got []string
		for _, f := range Norm(p, trim).Funs {
			got = append(got, f.Name[len("main."):]+" = "+brief(f.Body))
		}
		if !slices.Equal(got, want) {
			t.Errorf("%s\nwith %v\ngot  %q\nwant %q", text, trim, got, want)
		}
	}
}

// P12.1: casts in functions of the program, in instances and in functions within functions, each by its site.
func TestEachFunction(t *testing.T) {
	holdText(t, "fn main(x) = id[str](x) ++ f(x); fn f(x): str = g(fn (y): str => x); fn g(h: any -> str): str = h(1); fn id[A](x: A): A = let y: any = x; y; fn k(x) = id[int](1);",
		[]string{
			"main = [id: cat(call(g4, [n2 b2 i2 r2 f2: v0]), call(g1, v0))]",
			"f = call(g2, fn([n6 b6 i6 r6 f6: v0]))",
			"g = call(v0, [id: 1])",
			"k = [id: call(g5, 1)]",
			"id[str] = [n14 b14 i14 r14 f14: let([id: v0], v1)]",
			"id[int] = [n18 b18 s18 r18 f18: let([id: v0], v1)]",
		},
		[]string{
			"main = cat(call(g4, [n2 b2 i2 r2 f2: v0]), call(g1, v0))",
			"f = call(g2, fn([n6 b6 i6 r6 f6: v0]))",
			"g = call(v0, 1)",
			"k = call(g5, 1)",
			"id[str] = [n14 b14 i14 r14 f14: let(v0, v1)]",
			"id[int] = [n18 b18 s18 r18 f18: let(v0, v1)]",
		})
	holdText(t, "fn main(x) = {{a: x, b: x.c} with d: x.d + 1};",
		[]string{"main = [id: with d({a: v0, b: [n2 b2 i2 s2 f2 c!2: v0].c}, op([n6 b6 s6 r6 f6: [n4 b4 i4 s4 f4 d!4: v0].d], 1))]"},
		[]string{"main = with d({a: v0, b: [n2 b2 i2 s2 f2 c!2: v0].c}, op([n6 b6 s6 r6 f6: [n4 b4 i4 s4 f4 d!4: v0].d], 1))"})
	holdText(t, "fn main(x) = if x is int then {a: -x} else {b: not x};",
		[]string{"main = if(is(v0), [id: {a: neg(v0)}], [id: {b: not([n2 i2 s2 r2 f2: v0])}])"},
		[]string{"main = if(is(v0), {a: neg(v0)}, {b: not([n2 i2 s2 r2 f2: v0])})"})
}
