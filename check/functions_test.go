package check

import (
	"fmt"
	"strings"
	"testing"

	"gradus/api"
)

// The chapter's examples, and the document's that are about sites and errors.
func TestExamples(t *testing.T) {
	holdProgram(t, sources("main: fn main(x) = print(1 + 2);"),
		"main 0", "main.main: any -> any = <0 null => any: print((1 op0 2))>", "0:1:14")
	holdDiags(t, sources("main: fn main(x: int): int = x;"), diag(0, 1, 1, api.ErrMain))
	holdDiags(t, sources("main: fn main(x) = y;"), diag(0, 1, 14, api.ErrName))
	holdProgram(t, sources("main: fn f(x) = x;\nfn main(x) = f(\"a\") + 1;"),
		"main 1", "main.f: any -> any = v0", `main.main: any -> any = <2 int => any: (<1 any => int: g0(<0 str => any: "a">)> op0 1)>`, "0:2:16", "0:2:15", "0:2:21")
	holdProgram(t, sources("main: fn main(x) = 1 / 0;"),
		"main 0", "main.main: any -> any = <0 int => any: (1 op3 0)>", "0:1:16")
	holdProgram(t, sources("main: fn f(g: any -> int): int = g(1);\nfn main(x) = f((fn (s: str): int => 2) as any);"),
		"main 1", "main.f: (any -> int) -> int = v0(<0 int => any: 1>)",
		"main.main: any -> any = <3 int => any: g0(<2 any => any -> int: <1 str -> int => any: (fn 2)>>)>",
		"0:1:30", "0:2:40", "0:2:40", "0:2:15")
	holdProgram(t, sources("main: fn id[A](x: A): A = x;\nfn main(x) = id[{a: int}]({a: 7, b: 8}).a;"),
		"main 0", "main.main: any -> any = <0 int => any: g1({a: 7, b: 8}).a>", "main.id[{a: int}]: {a: int} -> {a: int} = v0", "0:2:40")
	holdProgram(t, sources(`main: fn main(x) = let v: int | null = null; if v is null then "none" else v;`),
		"main 0", `main.main: any -> any = <0 int | str => any: (let null; (if (v1 is 0) then "none" else v1))>`, "0:1:14")
}

// P9.1: functions without types, with one, with both; the body is coerced at its own place.
func TestFunctions(t *testing.T) {
	holdProgram(t, sources("main: fn main(x) = x;"), "main 0", "main.main: any -> any = v0")
	holdProgram(t, sources("main: fn main(x: null) = x;"), "main 0", "main.main: null -> any = <0 null => any: v0>", "0:1:20")
	holdProgram(t, sources("main: fn main(x): int = x;"), "main 0", "main.main: any -> int = <0 any => int: v0>", "0:1:19")
	holdProgram(t, sources("main: fn main(x: null): null = x;"), "main 0", "main.main: null -> null = v0")
	holdProgram(t, sources("main: fn main(x: str | null): int | {b: any, a: null} | str | null = x;"),
		"main 0", "main.main: null | str -> null | int | str | {a: null, b: any} = v0")
	holdProgram(t, sources("main: fn main(x): {a: int} =\n\n @1let y = 1;\n {a: x};"),
		"main 0", "main.main: any -> {a: int} = <0 {a: any} => {a: int}: (let 1; {a: v0})>", "@1")
}

// P9.1: what is wrong with a function, in the order in which it is met.
func TestFunctionsWrong(t *testing.T) {
	for text, e := range map[string]api.Errno{
		"@1fn main(x: B) = z;":                                  api.ErrType,
		"@1fn main(x): B = z;":                                  api.ErrType,
		"@1fn main(x: any | int): int = z;":                     api.ErrType,
		"@1fn main(x: {a: int, a: int}): int = z;":              api.ErrType,
		"@1fn main(x: {a: int} | {b: int}): int = z;":           api.ErrType,
		"  export @1fn main(x: B): int = 1;":                    api.ErrType,
		"export @1fn main(x: int): B = z;":                      api.ErrType,
		"export @1fn main(x: int): int = z;":                    api.ErrMain,
		"@1fn main(x: int): int = null;":                        api.ErrMain,
		"fn main(x): int = @1z;":                                api.ErrName,
		"fn main(x): int = @1null;":                             api.ErrMatch,
		"fn main(x): int =\n 1 @1== 2;":                         api.ErrMatch,
		"fn main(x: null): int = @1x;":                          api.ErrMatch,
		"fn main(x): int = let y: str = @11; null;":             api.ErrMatch,
		"fn main(x): int = @1let y: int = 1; null;":             api.ErrMatch,
		"fn main(x): {a: int} = @1{b: x};":                      api.ErrMatch,
		"fn main(x): int | str = @1if true then null else x.a;": api.OK,
		"fn main(x): str = @1if true then null else x.a + 1;":   api.ErrMatch,
	} {
		if e != api.OK {
			holdDiags(t, sources("main: "+text), at('1', e))
			continue
		}
		if _, d := Check(linked(t, sources("main: "+text))); len(d) > 0 {
			t.Error(text, d)
		}
	}
}

// P9.1: ErrMain, of the main function alone.
func TestMain(t *testing.T) {
	for _, takes := range []string{"any", "null", "null | int", "int | null | {a: any}", "null | null"} {
		if _, d := Check(linked(t, sources("main: fn main(x: "+takes+") = 1;"))); len(d) > 0 {
			t.Error(takes, d)
		}
	}
	for _, takes := range []string{"int", "bool", "str", "{}", "{a: null}", "null -> null", "any -> any", "int | str", "{a: any} | str"} {
		holdDiags(t, sources("main: fn f(x) = x;\n fn main(x: "+takes+"): int = y;"), diag(0, 2, 2, api.ErrMain))
	}
	// Other functions may take what they like, one called main of another module too.
	holdProgram(t, sources("a: fn main(x: int): int = x; export fn f(x: str): int = main(1);", "main: import a: f; fn g(x: bool): bool = x; fn main(x: null): int = f(\"a\");"),
		"main 3", "a.main: int -> int = v0", "a.f: str -> int = g0(1)", "main.g: bool -> bool = v0", `main.main: null -> int = g1("a")`)
	holdDiags(t, sources("a: fn main(x: int): int = @1z;", "main: fn f(x) = x;\n  @2fn main(x: int): int = z;"), at('1', api.ErrName), at('2', api.ErrMain))
}

// P9.1: functions' numbers, by modules and in their order; those with variables for types have none.
func TestNumbers(t *testing.T) {
	holdProgram(t, sources(
		"b: import c: h; export fn g[A](x: A): A = x; export fn f(x: int): int = h(x); fn u(x: int): int = f(x);",
		"main: import b: f, g; fn p[A](x: A): A = x; fn main(x: null): int = q(f(1)); fn q(x: int): int = q(x);",
		"c: export fn h(x: int): int = x;",
		"d: fn h(x: int): int = h(x);",
	),
		"main 2", "b.f: int -> int = g4(v0)", "b.u: int -> int = g0(v0)", "main.main: null -> int = g3(g0(1))", "main.q: int -> int = g3(v0)",
		"c.h: int -> int = v0", "d.h: int -> int = g5(v0)")
}

// P9.1: instances have numbers behind all others, in the order in which they are met, each once.
func TestInstances(t *testing.T) {
	holdProgram(t, sources("main: fn id[A](x: A): A = x; fn main(x: null): int = let a = id[str]; let b = id[int]; let c = id[str]; b(1); fn f(x: null): bool = id[int](1) == id[bool](true);"),
		"main 0", "main.main: null -> int = (let g2; (let g3; (let g2; v2(1))))", "main.f: null -> bool = (g3(1) == g4(true))",
		"main.id[str]: str -> str = v0", "main.id[int]: int -> int = v0", "main.id[bool]: bool -> bool = v0")
	// Met in instances, of functions of other modules, by names of their own scope.
	holdProgram(t, sources(
		"main: import a: two; fn one[A](x: A): A = two[A, int](x); fn main(x: null): null = one[null](x); fn u(x: null): str = two[str, str](\"a\");",
		"a: import b: one; export fn two[A, B](x: A): A = let b = one[B]; one[A](x);",
		"b: export fn one[A](x: A): A = x;",
	),
		"main 0", "main.main: null -> null = g2(v0)", `main.u: null -> str = g3("a")`,
		"main.one[null]: null -> null = g4(v0)", "a.two[str, str]: str -> str = (let g5; g5(v0))", "a.two[null, int]: null -> null = (let g6; g7(v0))",
		"b.one[str]: str -> str = v0", "b.one[int]: int -> int = v0", "b.one[null]: null -> null = v0")
	// One of itself.
	holdProgram(t, sources("main: fn f[A](x: A): A = f[A](x); fn main(x: null): int = f[int](1);"),
		"main 0", "main.main: null -> int = g1(1)", "main.f[int]: int -> int = g1(v0)")
	holdProgram(t, sources("main: fn f[A, B](x: A): A = let g = f[B, A]; x; fn main(x: null): int = f[int, str](1);"),
		"main 0", "main.main: null -> int = g1(1)", "main.f[int, str]: int -> int = (let g2; v0)", "main.f[str, int]: str -> str = (let g1; v0)")
	// Of one that is never asked for nothing is looked at.
	holdProgram(t, sources("main: fn f[A](x: B): C = z(1); fn main(x) = x;"), "main 0", "main.main: any -> any = v0")
}

// P9.1: names.
func TestFunctionNames(t *testing.T) {
	text := "main: fn f[A, B](x: null): null = null; fn main(x: null): null = "
	for _, c := range [][2]string{
		{"f[int, str]", "main.f[int, str]"},
		{"f[int | null, {b: any, a: int}]", "main.f[null | int, {a: int, b: any}]"},
		{"f[int -> int, (int -> int) -> int -> int]", "main.f[int -> int, (int -> int) -> int -> int]"},
		{"f[any, {}]", "main.f[any, {}]"},
		{"f[(int -> int) | str, int | int]", "main.f[str | (int -> int), int]"},
	} {
		p, d := Check(linked(t, sources(text+c[0]+"(x);")))
		if len(d) > 0 || len(p.Funs) != 2 || p.Funs[0].Name != "main.main" || p.Funs[1].Name != c[1] {
			t.Error(c, d, programText(p))
		}
	}
	long := strings.Repeat("n", 32)
	holdProgram(t, sources("main: fn main(x) = x;", long+": fn "+long+"(x) = x; fn _(x) = x;"),
		"main 0", "main.main: any -> any = v0", long+"."+long+": any -> any = v0", long+"._: any -> any = v0")
}

// P9.1: in an instance its types stand in the place of its variables, in each type that is written in it.
func TestInstanceTypes(t *testing.T) {
	l := func(with string) []api.Source {
		return sources("main: import a: f; fn main(x: null): null = let g = @1f["+with+"]; x;",
			"a: export fn f[A, B](x: A): {r: A | null} = @2let y: B | A = x; let g = @3fn (z: B): A | str => x; let h = @4id[B -> A]; {r: y @5as A}; fn id[B](x: B): B = x;")
	}
	holdProgram(t, l("int, null"),
		"main 0", "main.main: null -> null = (let g1; v0)",
		"a.f[int, null]: int -> {r: null | int} = (let v0; (let (fn v0); (let g2; {r: <0 any => int: <0 null | int => any: v1>>})))",
		"a.id[null -> int]: (null -> int) -> null -> int = v0", "@5")
	holdProgram(t, l("str, str"),
		"main 0", "main.main: null -> null = (let g1; v0)",
		"a.f[str, str]: str -> {r: null | str} = (let v0; (let (fn v0); (let g2; {r: v1})))",
		"a.id[str -> str]: (str -> str) -> str -> str = v0")
	// Unions that are none with these types: at the places where they stand. The function's own type is its caller's error.
	holdDiags(t, l("any, int"), at('1', api.ErrType))
	holdDiags(t, l("{a: int}, {}"), at('2', api.ErrType))
	holdDiags(t, l("int, any"), at('2', api.ErrType))
	high := func(n int) string { return strings.Repeat("{a: ", n) + "int" + strings.Repeat("}", n) }
	if _, d := Check(linked(t, l("int, "+high(13)))); len(d) > 0 {
		t.Error(d)
	}
	holdDiags(t, l("int, "+high(14)), at('4', api.ErrType))
	holdDiags(t, l("int, "+high(15)), at('2', api.ErrType))
	// The first of two variables of one name counts; a bound counts those ahead.
	holdProgram(t, sources("main: fn f[A, A](x: A): null = null; fn main(x: null): null = f[int, str](1);"),
		"main 0", "main.main: null -> null = g1(1)", "main.f[int, str]: int -> null = null")
	// Variables of the asking function are none of the one that is asked for, and the other way round.
	holdDiags(t, sources("main: fn g(x: null): null = @1id[A](1); fn id[A](x: A): A = x; fn main(x) = x;"), at('1', api.ErrType))
	holdDiags(t, sources("main: fn f[A](x: null): null = let y = id[int](1); x; fn id[B](x: B): B = x @1as A; fn main(x) = f[int](null);"), at('1', api.ErrType))
}

// P9.1: each function's first error, by functions' numbers.
func TestErrors(t *testing.T) {
	holdDiags(t, sources("main: fn f(x) = @1y;\nfn g(x) = x;\nfn main(x): int = @2null;\n@3fn h(x: Z) = 1;"),
		at('1', api.ErrName), at('2', api.ErrMatch), at('3', api.ErrType))
	// Just the first one of a function.
	holdDiags(t, sources("main: fn main(x) = {a: @1y, b: 1(1), c: 1 + null};"), at('1', api.ErrName))
	// In two modules: by their numbers, not by who calls whom.
	holdDiags(t, sources("b: export fn f(x) = @1y;", "main: import b: f; import c: g; fn main(x) = f(g(x)).a + @2z;", "c: fn k(x) = x; export fn g(x) = 1@3(x);"),
		at('1', api.ErrName), at('2', api.ErrName), at('3', api.ErrCall))
	// In instances: behind all others, with the module and the place of the function as it is written, once for each.
	holdDiags(t, sources("main: import a: f; fn main(x) = let p = f[int]; let q = f[str]; let r = f[int]; let s = f[bool]; x; fn g(x) = @1y;", "a: export fn f[A](x: A): int = @3x; fn h(x) = @2z;"),
		at('1', api.ErrName), at('2', api.ErrName), at('3', api.ErrMatch), at('3', api.ErrMatch))
	// Of an instance that was met ahead of an error in the function that asks for it.
	holdDiags(t, sources("main: fn f[A](x: A): int = @2z; fn main(x) = let p = f[int]; @1y;"), at('1', api.ErrName), at('2', api.ErrName))
	holdDiags(t, sources("main: fn f[A](x: A): int = z; fn main(x) = @1y == f[int];"), at('1', api.ErrName))
	// One that has no type is none: it is not looked at.
	holdDiags(t, sources("main: fn f[A](x: A | int): int = z; fn main(x) = @1f[any];"), at('1', api.ErrType))
	// Of instances that are met in wrong instances.
	holdDiags(t, sources("main: fn f[A](x: A): int = @1let p = g[A]; x; fn g[A](x: A): str = @2x; fn main(x) = let p = f[bool]; let q = g[int]; 1;"),
		at('1', api.ErrMatch), at('2', api.ErrMatch), at('2', api.ErrMatch))
}

// P9.1: one that asks for greater and greater instances of itself comes to one whose type can't be made.
func TestGrowing(t *testing.T) {
	holdDiags(t, sources("main: fn f[A](x: A): int = @1f[{a: A}]({a: x});\nfn main(x: null): int = f[int](1);"), at('1', api.ErrType))
	holdDiags(t, sources("main: fn f[A](x: null): int = @1f[A -> A](x);\nfn main(x: null): int = f[int](x);"), at('1', api.ErrType))
	// f has types of heights 1, 3, .. 15, g of 2, 4, .. 16: there is none for f any more.
	holdDiags(t, sources("main: fn f[A](x: null): int = g[{a: A}](x);\nfn g[A](x: null): int = @1f[{b: A}](x);\nfn main(x: null): int = f[int](x);"), at('1', api.ErrType))
	// A row of all but the first, and one more: 512 instances, of which just so many may be.
	vars, rest := "A, B, C, D, E, F, G, H, I", "B, C, D, E, F, G, H, I"
	text := "main: fn f[" + vars + "](x: null): null = let p = @0f[" + rest + ", int];\nlet q = @1f[" + rest + ", str]; x;\nfn main(x: null): null = f[int" + strings.Repeat(", int", 8) + "](x);"
	holdDiags(t, sources(text), manyOfRows(9, 255)...)
	// Where there are few enough, each is there once.
	vars, rest = "A, B, C", "B, C"
	text = "main: fn f[" + vars + "](x: null): null = let p = f[" + rest + ", int]; let q = f[" + rest + ", str]; x; fn main(x: null): null = f[int, int, int](x);"
	p, d := Check(linked(t, sources(text)))
	if len(d) > 0 || len(p.Funs) != 9 {
		t.Error(d, programText(p))
	}
}

// manyOfRows are the Diags where rows of so many bits ask for those that end by 0 and by 1, and only most of them may be.
func manyOfRows(bits, most int) []api.Diag {
	var found []api.Diag
	queue, seen := []int{0}, map[int]bool{0: true}
	for i := 0; i < len(queue); i++ {
		for bit := range 2 {
			next := (queue[i]<<1 | bit) & (1<<bits - 1)
			if !seen[next] && len(queue) == most {
				found = append(found, at('0'+byte(bit), api.ErrMany))
				break
			}
			if !seen[next] {
				seen[next] = true
				queue = append(queue, next)
			}
		}
	}
	return found
}

// many are so many functions, each in a line of its own.
func many(name string, n int) string {
	var s strings.Builder
	for i := range n {
		fmt.Fprintf(&s, "fn %s%d(x) = x;\n", name, i)
	}
	return s.String()
}

// P9.1: as many functions as there may be, and one more.
func TestMany(t *testing.T) {
	for _, n := range []int{1, 255, 256} {
		p, d := Check(linked(t, sources("main: "+many("f", n-1)+"fn main(x) = x;")))
		if len(d) > 0 || len(p.Funs) != n || p.Main != n-1 {
			t.Error(n, d, len(p.Funs), p.Main)
		}
	}
	// One Diag alone, whatever else is wrong.
	for _, n := range []int{257, 258, 500} {
		holdDiags(t, sources("main: fn main(x: int): Z = z;\n"+many("f", n-1)), diag(0, 257, 1, api.ErrMany))
	}
	holdDiags(t, sources("main: "+many("f", 256)+"  export fn main(x) = x;"), diag(0, 257, 10, api.ErrMany))
	// Over several modules, with others between.
	holdDiags(t, sources("a: "+many("f", 100), "main: fn main(x) = x;\n"+many("f", 99), "b: "+many("f", 56), "c: fn g[A](x) = x; \n fn f(x) = x;"), diag(3, 2, 2, api.ErrMany))
	p, d := Check(linked(t, sources("a: "+many("f", 100), "main: fn main(x) = x;\n"+many("f", 99), "b: "+many("f", 56), "c: fn g[A](x) = x;")))
	if len(d) > 0 || len(p.Funs) != 256 || p.Main != 100 {
		t.Error(d, len(p.Funs), p.Main)
	}
}

// P9.1: with instances.
func TestManyInstances(t *testing.T) {
	gen := "fn id[A](x: A): A = x; fn big[A <: {}](x: {a: A}): A = x.a;\n"
	with := func(plain int, body string) []api.Source {
		return sources("main: " + gen + many("f", plain-1) + "fn main(x) =\n" + body + ";")
	}
	for plain, body := range map[int]string{255: "id[int]", 254: "id[int] == id[str]", 253: "{a: id[int], b: id[str], c: id[int], d: id[bool], e: id[str | str]}"} {
		p, d := Check(linked(t, with(plain, body)))
		if len(d) > 0 || len(p.Funs) != 256 {
			t.Error(plain, d, len(p.Funs))
		}
	}
	holdDiags(t, with(256, "@1id[int]"), at('1', api.ErrMany))
	holdDiags(t, with(255, "id[int] == @1id[str]"), at('1', api.ErrMany))
	holdDiags(t, with(255, "id[int] == id[int] or id[int] == @1id[bool]"), at('1', api.ErrMany))
	// What else is wrong with an instance is told ahead of that.
	high := strings.Repeat("{a: ", 13) + "int" + strings.Repeat("}", 13)
	holdDiags(t, with(256, "@1id[Z]"), at('1', api.ErrType))
	holdDiags(t, with(256, "@1id[int, int]"), at('1', api.ErrInst))
	holdDiags(t, with(256, "@1big[int]"), at('1', api.ErrInst))
	holdDiags(t, with(256, "@1big["+high+"]"), at('1', api.ErrMany))
	holdDiags(t, with(256, "@1big[{a: "+high+"}]"), at('1', api.ErrType))
	// Instances that are there already may be asked for again, by functions that come behind.
	l := sources("main: fn id[A](x: A): A = x; fn main(x) = id[int];\n" + many("f", 252) + "fn g(x) = id[int]; fn h(x) =\n @1id[str];")
	holdDiags(t, l, at('1', api.ErrMany))
	l = sources("main: fn id[A](x: A): A = x; fn main(x) = id[int];\n" + many("f", 253) + "fn g(x) = id[int];")
	p, d := Check(linked(t, l))
	if len(d) > 0 || len(p.Funs) != 256 || p.Funs[254].Name != "main.g" || coreText(p.Funs[254].Body.Kids[0]) != "g255" {
		t.Error(d, len(p.Funs))
	}
}

// P9.1: sites are told by the module and the place, from function to function; each instance has its own.
func TestSites(t *testing.T) {
	holdProgram(t, sources(
		"a: export fn f[A](x: A): any = @6x; fn u(x) =\n @1x @2+ 1;",
		"main: import a: f; fn main(x) = f[int](@3x);\nfn g(x): str = @4let h = f[str]; x;",
		"c: fn k(x): int =\n\n  @5x;",
	),
		"main 1", "a.u: any -> any = <1 int => any: (<0 any => int: v0> op0 1)>",
		"main.main: any -> any = g4(<2 any => int: v0>)", "main.g: any -> str = <3 any => str: (let g5; v0)>", "c.k: any -> int = <4 any => int: v0>",
		"a.f[int]: int -> any = <5 int => any: v0>", "a.f[str]: str -> any = <6 str => any: v0>",
		"@1", "@2", "@3", "@4", "@5", "@6", "@6")
}
