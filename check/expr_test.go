package check

import (
	"fmt"
	"strings"
	"testing"

	"gradus/api"
)

// ahead are functions that expressions in tests may name: main is 0, f 1, k 2, t 3; instances come behind these.
const ahead = `fn main(x: null): null = null; fn f(n: int): str = "f"; fn k(w) = w; fn id[A](w: A): A = w; fn both[A, B <: {a: A}](w: B): A = w.a;`

// framed is a function t, which takes v and answers any, with the expression alone in the third line.
func framed(takes, expr string) []api.Source {
	return []api.Source{{Name: "main", Text: ahead + "\nfn t(v: " + takes + "): any =\n" + expr + "\n;"}}
}

// right is an expression: what t takes, the text, the body of t, and the columns of its sites. Where the expression is
// not of any, the last cast is the body's to any, so that it tells the expression's type.
type right struct{ takes, text, want, cols string }

func holdRight(t *testing.T, cases ...right) {
	t.Helper()
	for _, c := range cases {
		p, d := Check(linked(t, framed(c.takes, c.text)))
		if len(d) > 0 {
			t.Errorf("v: %s, %s: %v", c.takes, c.text, d)
			continue
		}
		var cols []string
		for _, s := range p.Sites {
			if s.Module != 0 || s.Line != 3 {
				t.Errorf("v: %s, %s: a site at %v", c.takes, c.text, s)
			}
			cols = append(cols, fmt.Sprint(s.Col))
		}
		if got := coreText(p.Funs[3].Body); got != c.want || strings.Join(cols, " ") != c.cols {
			t.Errorf("v: %s, %s:\ngot  %s at %v\nwant %s at %s", c.takes, c.text, got, cols, c.want, c.cols)
		}
	}
}

// bad is an expression with an error, and the column that is told.
type bad struct {
	takes, text string
	col         int
	e           api.Errno
}

func holdBad(t *testing.T, cases ...bad) {
	t.Helper()
	for _, c := range cases {
		holdDiags(t, framed(c.takes, c.text), diag(0, 3, c.col, c.e))
	}
}

// P9.1: what has no Kids.
func TestConstants(t *testing.T) {
	holdRight(t,
		right{"any", "5", "<0 int => any: 5>", "1"},
		right{"any", "0", "<0 int => any: 0>", "1"},
		right{"any", "9223372036854775807", "<0 int => any: 9223372036854775807>", "1"},
		right{"any", `"a\n"`, `<0 str => any: "a\n">`, "1"},
		right{"any", `""`, `<0 str => any: "">`, "1"},
		right{"any", "true", "<0 bool => any: true>", "1"},
		right{"any", " false", "<0 bool => any: false>", "2"},
		right{"any", "null", "<0 null => any: null>", "1"},
		right{"any", "read()", "<0 int => any: read>", "1"},
		right{"any", "((read()))", "<0 int => any: read>", "3"},
	)
}

// P9.1: names of variables and of functions.
func TestNames(t *testing.T) {
	holdRight(t,
		right{"any", "v", "v0", ""},
		right{"int", "v", "<0 int => any: v0>", "1"},
		right{"int | null", "v", "<0 null | int => any: v0>", "1"},
		right{"any", "f", "<0 int -> str => any: g1>", "1"},
		right{"any", "k", "<0 any -> any => any: g2>", "1"},
		right{"any", "main", "<0 null -> null => any: g0>", "1"},
		// The function itself.
		right{"int", "t", "<0 int -> any => any: g3>", "1"},
		// Of two of one name the last one counts, whichever way it came in scope.
		right{"any", "let v = 1; v", "<0 int => any: (let 1; v1)>", "1"},
		right{"any", "let a = 1; let b = v; let a = b; a", "(let 1; (let v0; (let v2; v3)))", ""},
		right{"any", "(let v = 1; v) == v", "<0 bool => any: ((let 1; v1) == v0)>", "16"},
		right{"int", "fn (v: str) => v", "<0 str -> str => any: (fn v1)>", "1"},
		right{"int", "let w = v; fn (u: str) => let v = w; fn (w: bool) => v", "<0 str -> bool -> int => any: (let v0; (fn (let v1; (fn v3))))>", "1"},
		right{"int", "(fn (v: str) => v) == v", "<0 bool => any: ((fn v1) == v0)>", "20"},
		// A variable hides a function of the scope, and it comes back behind.
		right{"any", "let f = 1; f", "<0 int => any: (let 1; v1)>", "1"},
		right{"any", "let f = f; f", "<0 int -> str => any: (let g1; v1)>", "1"},
		right{"any", "(let f = 1; f) == f", "<0 bool => any: ((let 1; v1) == g1)>", "16"},
		right{"any", "fn (id) => id", "<0 any -> any => any: (fn v1)>", "1"},
		right{"any", "let id = v; id", "(let v0; v1)", ""},
	)
	holdBad(t,
		bad{"any", "z", 1, api.ErrName},
		bad{"any", "main(zz)", 6, api.ErrName},
		bad{"any", "A", 1, api.ErrName},
		// What is in scope in one place is not in another one.
		bad{"any", "(let a = 1; a) == a", 19, api.ErrName},
		bad{"any", "let a = a; 1", 9, api.ErrName},
		bad{"any", "(fn (a) => a) == a", 18, api.ErrName},
		bad{"any", "n", 1, api.ErrName},
		bad{"any", "w", 1, api.ErrName},
		// Functions with variables for types.
		bad{"any", "id", 1, api.ErrInst},
		bad{"any", "id(1)", 1, api.ErrInst},
		bad{"any", "let a = both; 1", 9, api.ErrInst},
	)
}

// P9.1: what a function takes hides functions of the scope, the function itself too.
func TestTakesHides(t *testing.T) {
	holdProgram(t, sources("main: fn main(main) = main; fn f(main: int): int = main; fn g(f) = f;"),
		"main 0", "main.main: any -> any = v0", "main.f: int -> int = v0", "main.g: any -> any = v0")
	holdDiags(t, sources("main: fn main(g) = g[int]; fn g[A](x: A): A = x;"), diag(0, 1, 14, api.ErrInst))
}

// P9.1: a name whose type can't be made; that function's own error is told too.
func TestNamesWithoutType(t *testing.T) {
	holdDiags(t, sources("main: fn main(x) =\nbad; fn bad(x: B): int = z;"), diag(0, 2, 1, api.ErrType), diag(0, 2, 6, api.ErrType))
	holdDiags(t, sources("main: fn main(x) =\nbad; fn bad(x: int): any | int = z;"), diag(0, 2, 1, api.ErrType), diag(0, 2, 6, api.ErrType))
	holdDiags(t, sources("main: fn bad(x: B) = 1; fn main(x) = 1(bad);"), diag(0, 1, 1, api.ErrType), diag(0, 1, 33, api.ErrCall))
	holdDiags(t, sources("main: fn bad(x): {a: int, a: int} = 1; fn main(x) = let bad = 1; bad;"), diag(0, 1, 1, api.ErrType))
	high := strings.Repeat("{a: ", 15) + "int" + strings.Repeat("}", 15)
	holdDiags(t, sources("main: fn bad(x: "+high+") = 1;\nfn main(x) = bad;"), diag(0, 1, 1, api.ErrType), diag(0, 2, 14, api.ErrType))
	// A function with variables for types is told by these, whatever else is wrong with it.
	holdDiags(t, sources("main: fn bad[A](x: B): int = z; fn main(x) =\nbad;"), diag(0, 2, 1, api.ErrInst))
}

// P9.1: instances as expressions.
func TestInst(t *testing.T) {
	holdRight(t,
		right{"any", "id[int]", "<0 int -> int => any: g4>", "1"},
		right{"any", "id[any]", "<0 any -> any => any: g4>", "1"},
		right{"any", "id[int](1)", "<0 int => any: g4(1)>", "8"},
		right{"any", "both[int, {a: int}]({a: 1})", "<0 int => any: g4({a: 1})>", "20"},
		right{"any", "both[int, {b: str, a: int}]", "<0 {a: int, b: str} -> int => any: g4>", "1"},
		right{"any", "id[int | null] == id[null | int]", "<0 bool => any: (g4 == g4)>", "16"},
		right{"any", "id[int] == id[str]", "<0 bool => any: (g4 == g5)>", "9"},
		right{"any", "(id[{b: int, a: str} -> any])", "<0 ({a: str, b: int} -> any) -> {a: str, b: int} -> any => any: g4>", "2"},
	)
	holdBad(t,
		bad{"any", "zz[int]", 1, api.ErrName},
		bad{"any", "zz[Z]", 1, api.ErrName},
		// A variable, whatever else the name is.
		bad{"any", "v[int]", 1, api.ErrInst},
		bad{"any", "v[Z]", 1, api.ErrInst},
		bad{"any", "let id = 1; id[int]", 13, api.ErrInst},
		bad{"any", "fn (id) => id[int]", 12, api.ErrInst},
		// A function without variables.
		bad{"any", "f[int]", 1, api.ErrInst},
		bad{"any", "f[Z]", 1, api.ErrInst},
		bad{"any", "t[int]", 1, api.ErrInst},
		// Types that can't be resolved: ahead of what Bind says.
		bad{"any", "id[Z]", 1, api.ErrType},
		bad{"any", "id[A]", 1, api.ErrType},
		bad{"any", "id[any | int]", 1, api.ErrType},
		bad{"any", "id[int, Z]", 1, api.ErrType},
		bad{"any", "both[Z]", 1, api.ErrType},
		bad{"any", "both[str, {a: Z}]", 1, api.ErrType},
		bad{"any", "f(id[{a: int, a: int}](1))", 3, api.ErrType},
		// Too few, too many, none that fits.
		bad{"any", "id[int, int]", 1, api.ErrInst},
		bad{"any", "both[int]", 1, api.ErrInst},
		bad{"any", "both[int, {a: int}, int]", 1, api.ErrInst},
		bad{"any", "both[int, {a: str}]", 1, api.ErrInst},
		bad{"any", "both[int, {}]", 1, api.ErrInst},
		bad{"any", "both[int, any]", 1, api.ErrInst},
		bad{"any", "both[any, {a: int}]", 1, api.ErrInst},
		bad{"any", "1 == both[int, int]", 6, api.ErrInst},
	)
}

// P9.1: let.
func TestLet(t *testing.T) {
	holdRight(t,
		right{"any", "let a = 1; a", "<0 int => any: (let 1; v1)>", "1"},
		right{"any", "let a: int = 1; a", "<0 int => any: (let 1; v1)>", "1"},
		// Of the type that is written, also where nothing is cast.
		right{"any", "let a: int | null = 1; a", "<0 null | int => any: (let 1; v1)>", "1"},
		right{"any", "let a: {b: int} = {c: 1, b: 2}; a", "<0 {b: int} => any: (let {c: 1, b: 2}; v1)>", "1"},
		right{"any", "let a: any = v; a", "(let v0; v1)", ""},
		// Cast at what it is, ahead of the rest's casts.
		right{"any", "let a: any = 1 + 2; a", "(let <0 int => any: (1 op0 2)>; v1)", "16"},
		right{"any", "let a: int = v; a + v", "<2 int => any: (let <0 any => int: v0>; (v1 op0 <1 any => int: v0>))>", "14 21 1"},
		right{"any", "let a: {b: int} = {b: v}; a.b", "<1 int => any: (let <0 {b: any} => {b: int}: {b: v0}>; v1.b)>", "19 1"},
		right{"any", "let a: int = (let b: str = v; 1); a", "<1 int => any: (let (let <0 any => str: v0>; 1); v1)>", "28 1"},
		right{"any", "let a: int = 1; let b: int = a; b", "<0 int => any: (let 1; (let v1; v2))>", "1"},
	)
	holdBad(t,
		bad{"any", "let a: int = null; 1", 14, api.ErrMatch},
		bad{"any", `let a: int = (1 + 2 == 3); 1`, 21, api.ErrMatch},
		bad{"any", "let a: Z = 1; 1", 1, api.ErrType},
		bad{"any", "let a: any | int = 1; 1", 1, api.ErrType},
		// What it is, then its type, then whether it fits, then the rest.
		bad{"any", "let a: Z = b; c", 12, api.ErrName},
		bad{"any", "let a: Z = null; c", 1, api.ErrType},
		bad{"any", "let a: int = null; c", 14, api.ErrMatch},
		bad{"any", "let a: int = 1; c", 17, api.ErrName},
		bad{"int | null", "let a: int = v; 1", 14, api.ErrMatch},
		bad{"any", "1 + (let a = 1; null)", 6, api.ErrMatch},
	)
}

// P9.1: fn.
func TestFn(t *testing.T) {
	holdRight(t,
		right{"any", "fn (a) => a", "<0 any -> any => any: (fn v1)>", "1"},
		right{"any", "fn (a) => 1", "<0 any -> int => any: (fn 1)>", "1"},
		right{"any", "fn (a: int) => a", "<0 int -> int => any: (fn v1)>", "1"},
		right{"any", "fn (a: int | int) => a", "<0 int -> int => any: (fn v1)>", "1"},
		right{"any", "fn (a): int => 1", "<0 any -> int => any: (fn 1)>", "1"},
		right{"any", "fn (a: int): int => a", "<0 int -> int => any: (fn v1)>", "1"},
		right{"any", "fn (a: int): int | str => a", "<0 int -> int | str => any: (fn v1)>", "1"},
		right{"any", "fn (a): int => a + a", "<2 any -> int => any: (fn (<0 any => int: v1> op0 <1 any => int: v1>))>", "16 20 1"},
		right{"any", "fn (a): str => a", "<1 any -> str => any: (fn <0 any => str: v1>)>", "16 1"},
		right{"any", "fn (a: int): any => a", "<1 int -> any => any: (fn <0 int => any: v1>)>", "21 1"},
		right{"any", "fn (a: {b: any}): {b: int} => a", "<1 {b: any} -> {b: int} => any: (fn <0 {b: any} => {b: int}: v1>)>", "31 1"},
		right{"str", "fn (a: int) => fn (b: bool) => {x: v, y: a, z: b}", "<0 int -> bool -> {x: str, y: int, z: bool} => any: (fn (fn {x: v0, y: v1, z: v2}))>", "1"},
	)
	holdBad(t,
		bad{"any", "fn (a: int): str => a", 21, api.ErrMatch},
		bad{"any", "fn (a: int): str => a + 1", 23, api.ErrMatch},
		bad{"any", "fn (a: Z) => a", 1, api.ErrType},
		bad{"any", "fn (a): Z => a", 1, api.ErrType},
		bad{"any", "1 == (fn (a: {b: int, b: int}): int => 1)", 7, api.ErrType},
		// Both types, then the body, then whether it fits.
		bad{"any", "fn (a: Z): int => b", 1, api.ErrType},
		bad{"any", "fn (a: int): Z => b", 1, api.ErrType},
		bad{"any", "fn (a: int): int => b", 21, api.ErrName},
		bad{"any", "fn (a: int): int => (let c: int = null; null)", 35, api.ErrMatch},
	)
}

// P9.1: calls.
func TestCall(t *testing.T) {
	holdRight(t,
		right{"any", "f(1)", "<0 str => any: g1(1)>", "2"},
		right{"any", "f(v)", "<1 str => any: g1(<0 any => int: v0>)>", "3 2"},
		right{"any", "k(1)", "g2(<0 int => any: 1>)", "3"},
		right{"any", "k(v)", "g2(v0)", ""},
		right{"any", "k(f(1 + 2))", "g2(<0 str => any: g1((1 op0 2))>)", "4"},
		right{"{a: int} -> int | null", "v({b: 1, a: 2})", "<0 null | int => any: v0({b: 1, a: 2})>", "2"},
		right{"any -> int", "v(1)", "<1 int => any: v0(<0 int => any: 1>)>", "3 2"},
		// Of any: first the function, at the call, then what it is given.
		right{"any", "v(1)", "<0 any => any -> any: v0>(<1 int => any: 1>)", "2 3"},
		right{"any", "v(v)", "<0 any => any -> any: v0>(v0)", "2"},
		right{"any", "v(1)(2)", "<2 any => any -> any: <0 any => any -> any: v0>(<1 int => any: 1>)>(<3 int => any: 2>)", "2 3 5 6"},
		right{"any", "v (v (null))", "<0 any => any -> any: v0>(<1 any => any -> any: v0>(<2 null => any: null>))", "3 6 7"},
		right{"any", "(v + 1)", "<1 int => any: (<0 any => int: v0> op0 1)>", "2 4"},
	)
	holdBad(t,
		bad{"any", "1(2)", 2, api.ErrCall},
		bad{"any", "(1 + 2)(2)", 8, api.ErrCall},
		bad{"any", "null(z)", 5, api.ErrCall},
		bad{"any", "f(1)(z)", 5, api.ErrCall},
		bad{"int | (int -> int)", "v(1)", 2, api.ErrCall},
		bad{"{a: int}", "v(1)", 2, api.ErrCall},
		// What is called, whether it may be, what it is given, whether that fits.
		bad{"any", "y(z)", 1, api.ErrName},
		bad{"any", "f(z)", 3, api.ErrName},
		bad{"any", "v(z)", 3, api.ErrName},
		bad{"any", "f(null)", 3, api.ErrMatch},
		bad{"any", "f({a: 1}.a == 1)", 12, api.ErrMatch},
		bad{"any", "f(f(1))", 4, api.ErrMatch},
		bad{"{a: int} -> int", "v({})", 3, api.ErrMatch},
		bad{"int -> int", "v(1)(2)", 5, api.ErrCall},
		bad{"{a: int} -> any", "v({a: v})", 3, api.ErrMatch},
	)
}

// P9.1: records.
func TestRec(t *testing.T) {
	holdRight(t,
		right{"any", "{}", "<0 {} => any: {}>", "1"},
		right{"any", "{a: 1}", "<0 {a: int} => any: {a: 1}>", "1"},
		// The core has the fields in their order, the type by rising names.
		right{"any", `{b: 1, a: "x", B: v}`, `<0 {B: any, a: str, b: int} => any: {b: 1, a: "x", B: v0}>`, "1"},
		right{"any", "{c: v + 1, a: v + 2, b: {z: 1, y: v}}", "<2 {a: int, b: {y: any, z: int}, c: int} => any: {c: (<0 any => int: v0> op0 1), a: (<1 any => int: v0> op0 2), b: {z: 1, y: v0}}>", "5 15 1"},
		right{"any", "{v: v, f: f}", "<0 {f: int -> str, v: any} => any: {v: v0, f: g1}>", "1"},
		right{"any", "{" + fields(16, "1") + "}", "<0 {" + fields(16, "int") + "} => any: {" + fields(16, "1") + "}>", "1"},
	)
	holdBad(t,
		bad{"any", "{a: 1, a: 1}", 1, api.ErrTwice},
		bad{"any", "{a: 1, b: 1, c: 3, b: 1}", 1, api.ErrTwice},
		bad{"any", "1 == {b: 1, a: 1, b: 1}", 6, api.ErrTwice},
		bad{"any", "{" + fields(17, "1") + "}", 1, api.ErrType},
		// Names, then Kids in their order, then the type.
		bad{"any", "{a: z, a: 1(1)}", 1, api.ErrTwice},
		bad{"any", "{b: z, a: 1(1)}", 5, api.ErrName},
		bad{"any", "{b: 1(1), a: z}", 6, api.ErrCall},
		bad{"any", "{" + fields(16, "1") + ", z: z}", 1 + len("{"+fields(16, "1")+", z: "), api.ErrName},
		bad{"any", "{" + fields(16, "1") + ", f00: z}", 1, api.ErrTwice},
	)
}

// fields are so many, by rising names, each the same.
func fields(n int, each string) string {
	var l []string
	for i := range n {
		l = append(l, fmt.Sprintf("f%02d: %s", i, each))
	}
	return strings.Join(l, ", ")
}

// P9.1: fields that are asked for.
func TestSel(t *testing.T) {
	holdRight(t,
		right{"{a: int, b: any}", "v.a", "<0 int => any: v0.a>", "2"},
		right{"{a: int, b: any}", "v.b", "v0.b", ""},
		right{"{b: int, a: str}", "v . b", "<0 int => any: v0.b>", "3"},
		right{"{b: int, a: str}", "v.a", "<0 str => any: v0.a>", "2"},
		right{"{a: {b: {c: int | null}}}", "v.a.b.c", "<0 null | int => any: v0.a.b.c>", "6"},
		right{"any", "v.a", "<0 any => {a: any}: v0>.a", "2"},
		right{"any", "v.a.bb", "<1 any => {bb: any}: <0 any => {a: any}: v0>.a>.bb", "2 4"},
		right{"any", "v(1).a", "<2 any => {a: any}: <0 any => any -> any: v0>(<1 int => any: 1>)>.a", "2 3 5"},
		right{"any", "{a: v}.a", "{a: v0}.a", ""},
	)
	holdBad(t,
		bad{"{a: int}", "v.b", 2, api.ErrField},
		bad{"{}", "v.a", 2, api.ErrField},
		bad{"any", "{a: 1}.b", 7, api.ErrField},
		bad{"any", "1 .a", 3, api.ErrField},
		bad{"any", "f.a", 2, api.ErrField},
		bad{"any", "null.a", 5, api.ErrField},
		bad{"{a: int} | null", "v.a", 2, api.ErrField},
		bad{"{a: int}", "v.a.b", 4, api.ErrField},
		bad{"any", "z.a", 1, api.ErrName},
		bad{"any", "z.a.b", 1, api.ErrName},
	)
}

// P9.1: records with a field that is new or another one.
func TestWith(t *testing.T) {
	holdRight(t,
		right{"{b: int}", "{v with c: 1}", "<0 {b: int, c: int} => any: {v0 with c: 1}>", "1"},
		right{"{b: int}", "{v with a: 1}", "<0 {a: int, b: int} => any: {v0 with a: 1}>", "1"},
		right{"{a: int, c: int}", `{v with b: "x"}`, `<0 {a: int, b: str, c: int} => any: {v0 with b: "x"}>`, "1"},
		right{"{a: int, b: int, c: int}", `{v with b: "x"}`, `<0 {a: int, b: str, c: int} => any: {v0 with b: "x"}>`, "1"},
		right{"{a: any}", "{v with a: 1}", "<0 {a: int} => any: {v0 with a: 1}>", "1"},
		right{"{a: int}", "{v with a: v}", "<0 {a: {a: int}} => any: {v0 with a: v0}>", "1"},
		right{"{}", "{v with a: k(v)}", "<1 {a: any} => any: {v0 with a: g2(<0 {} => any: v0>)}>", "14 1"},
		// Of any: what is left of it is just that field. The cast is ahead of the field's.
		right{"any", "{v with a: v}", "<1 {a: any} => any: {<0 any => {}: v0> with a: v0}>", "1 1"},
		right{"any", "{v with a: v + 1}", "<2 {a: int} => any: {<0 any => {}: v0> with a: (<1 any => int: v0> op0 1)}>", "1 12 1"},
		right{"any", "{{v with a: 1} with b: 2}", "<1 {a: int, b: int} => any: {{<0 any => {}: v0> with a: 1} with b: 2}>", "2 1"},
		right{"{" + fields(16, "int") + "}", "{v with f07: null}", "<0 {" + strings.Replace(fields(16, "int"), "f07: int", "f07: null", 1) + "} => any: {v0 with f07: null}>", "1"},
		right{"{" + fields(15, "int") + "}", "{v with z: null}", "<0 {" + fields(15, "int") + ", z: null} => any: {v0 with z: null}>", "1"},
	)
	holdBad(t,
		bad{"any", "{1 with a: 2}", 1, api.ErrField},
		bad{"any", "{(1 + 2) with a: 2}", 1, api.ErrField},
		bad{"{a: int} | null", "{v with a: 2}", 1, api.ErrField},
		bad{"any", "1 == {f with a: 2}", 6, api.ErrField},
		// The record, whether it is one, the field, the type.
		bad{"any", "{y with a: z}", 2, api.ErrName},
		bad{"any", "{1 with a: z}", 1, api.ErrField},
		bad{"any", "{v with a: z}", 12, api.ErrName},
		bad{"{}", "{v with a: z}", 12, api.ErrName},
		bad{"{" + fields(16, "int") + "}", "{v with a: z}", 12, api.ErrName},
		bad{"{" + fields(16, "int") + "}", "{v with a: 1}", 1, api.ErrType},
	)
}

// P9.1: and of what stands in it, none is cast where nothing is to be done: sites are there just for what is cast.
func TestNoSites(t *testing.T) {
	text := `main: fn main(x: null): {a: int | null} = let r: {b: int} = {a: 1, b: 2}; let n = if r.b < 2 and not ("x" ++ "y" == null) then null else -r.b; {r with a: n};`
	p, d := Check(linked(t, sources(text)))
	if len(d) > 0 || len(p.Sites) > 0 || strings.Contains(programText(p), "=>") {
		t.Error(d, programText(p))
	}
}
