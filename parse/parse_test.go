package parse

import (
	"reflect"
	"strings"
	"testing"

	"gradus/api"
	"gradus/tree"
)

func diagAt(line, col int, e api.Errno) api.Diag {
	return api.Diag{Line: line, Col: col, E: e}
}

func leaf(kind int) api.Type { return api.Type{Kind: kind} }

func variable(name string) api.Type { return api.Type{Kind: api.TVar, Name: name} }

func function(from, to api.Type) api.Type {
	return api.Type{Kind: api.TFun, Kids: []api.Type{from, to}}
}

func union(kids ...api.Type) api.Type { return api.Type{Kind: api.TUnion, Kids: kids} }

// recordOf has its names in one text.
func recordOf(names string, kids ...api.Type) api.Type {
	return api.Type{Kind: api.TRec, Names: strings.Fields(names), Kids: kids}
}

func sameExpr(t *testing.T, text, want string) {
	t.Helper()
	n, d := Expr(text)
	if d != (api.Diag{}) || sketch(n) != want {
		t.Errorf("%q:\n%s, %v, not\n%s", text, sketch(n), d, want)
	}
}

// P5.1, P5.2, P5.4: each Kind of expression with all that it has, and its place.
func TestKinds(t *testing.T) {
	for text, want := range map[string]string{
		"0":                                 "Int@1:1",
		"9223372036854775807":               "Int 9223372036854775807@1:1",
		` "a\"\\\n\t" `:                     "Str a\"\\\n\t@1:2",
		`""`:                                "Str@1:1",
		"true":                              "Bool 1@1:1",
		"false":                             "Bool@1:1",
		"null":                              "Null@1:1",
		"x":                                 "Name x@1:1",
		"let x = 1; x":                      "Let x@1:1(Int 1@1:9, Name x@1:12)",
		"let x: int = 1; x":                 "Let x@1:1<int>(Int 1@1:14, Name x@1:17)",
		"let x: any = 1; x":                 "Let x@1:1<any>(Int 1@1:14, Name x@1:17)",
		"fn (x) => y":                       "Fn x@1:1<any>(Name y@1:11)",
		"fn (x: int) => y":                  "Fn x@1:1<int>(Name y@1:16)",
		"fn (x): str => y":                  "Fn x@1:1<any; str>(Name y@1:16)",
		"fn (x): any => y":                  "Fn x@1:1<any; any>(Name y@1:16)",
		"fn (x: A -> B): {a: int} => y":     "Fn x@1:1<A -> B; {a: int}>(Name y@1:29)",
		"f(x)":                              "Call@1:2(Name f@1:1, Name x@1:3)",
		"f (x) (y)":                         "Call@1:7(Call@1:3(Name f@1:1, Name x@1:4), Name y@1:8)",
		"{}":                                "Rec@1:1",
		"{b: 1}":                            "Rec@1:1{b}(Int 1@1:5)",
		"{b: 1, a: x, b: 2}":                "Rec@1:1{b a b}(Int 1@1:5, Name x@1:11, Int 2@1:17)",
		"a.b.c":                             "Sel c@1:4(Sel b@1:2(Name a@1:1))",
		"{a with b: 1}":                     "With b@1:1(Name a@1:2, Int 1@1:12)",
		"{{} with b: {c: 1}}":               "With b@1:1(Rec@1:2, Rec@1:13{c}(Int 1@1:17))",
		"{a.b with c: 1}":                   "With c@1:1(Sel b@1:3(Name a@1:2), Int 1@1:14)",
		"{let a = 1; a with c: 1}":          "With c@1:1(Let a@1:2(Int 1@1:10, Name a@1:13), Int 1@1:23)",
		"if a then b else c":                "If@1:1(Name a@1:4, Name b@1:11, Name c@1:18)",
		"a is null":                         "Is@1:3(Name a@1:1)",
		"a is bool":                         "Is 1@1:3(Name a@1:1)",
		"a is int":                          "Is 2@1:3(Name a@1:1)",
		"a is str":                          "Is 3@1:3(Name a@1:1)",
		"a is record":                       "Is 4@1:3(Name a@1:1)",
		"a is function":                     "Is 5@1:3(Name a@1:1)",
		"a as int | null -> A":              "As@1:3<int | null -> A>(Name a@1:1)",
		"a + b":                             "Op +@1:3(Name a@1:1, Name b@1:5)",
		"not a":                             "Not@1:1(Name a@1:5)",
		"-a":                                "Neg@1:1(Name a@1:2)",
		"-5":                                "Neg@1:1(Int 5@1:2)",
		"not - not a":                       "Not@1:1(Neg@1:5(Not@1:7(Name a@1:11)))",
		"print(a)":                          "Print@1:1(Name a@1:7)",
		"print (a)(b)":                      "Call@1:10(Print@1:1(Name a@1:8), Name b@1:11)",
		"read()":                            "Read@1:1",
		"read ( ).a":                        "Sel a@1:9(Read@1:1)",
		"f[int]":                            "Inst f@1:1<int>",
		"f[int -> A, {}, any | str](x)":     "Call@1:27(Inst f@1:1<int -> A; {}; any | str>, Name x@1:28)",
		"(a)":                               "Name a@1:2",
		"((a + b))":                         "Op +@1:5(Name a@1:3, Name b@1:7)",
		"(let x = 1; x)(y)":                 "Call@1:15(Let x@1:2(Int 1@1:10, Name x@1:13), Name y@1:16)",
		"(a).b":                             "Sel b@1:4(Name a@1:2)",
		"(f(x))":                            "Call@1:3(Name f@1:2, Name x@1:4)",
		"(-(a))":                            "Neg@1:2(Name a@1:4)",
		"({a: 1})":                          "Rec@1:2{a}(Int 1@1:6)",
		"let x = let y = 1; y; fn (z) => x": "Let x@1:1(Let y@1:9(Int 1@1:17, Name y@1:20), Fn z@1:23<any>(Name x@1:33))",
		"{a: fn (x) => x, b: if a then b else let c = 1; c}": "Rec@1:1{a b}(Fn x@1:5<any>(Name x@1:15), If@1:21(Name a@1:24, Name b@1:31, Let c@1:38(Int 1@1:46, Name c@1:49)))",
	} {
		sameExpr(t, text, want)
	}
}

// P5.2: lines as well as columns, of operations behind a line feed and remarks.
func TestLines(t *testing.T) {
	sameExpr(t, "a\n  + # b\n\n c (\n d) \n.\n e", "Op +@2:3(Name a@1:1, Sel e@6:1(Call@4:4(Name c@4:2, Name d@5:2)))")
	sameExpr(t, "(\n(\na\n)\nis\nint\n)", "Is 2@5:1(Name a@3:1)")
	sameExpr(t, "\n\n {\na\nwith\nb\n:\n1\n}", "With b@3:2(Name a@4:1, Int 1@8:1)")
	sameExpr(t, "not\n(\na\nas\nint\n)", "Not@1:1(As@4:1<int>(Name a@3:1))")
}

// P5.1: of each rank; those of one rank from the left, and those of two by their ranks.
func TestRanks(t *testing.T) {
	ranks := [][]string{{"or"}, {"and"}, {"<", "<=", "=="}, {"++"}, {"+", "-", "^"}, {"*", "/", "%", "&", "<<", ">>"}}
	const single = 2 // of this rank no two stand behind one another
	for i, first := range ranks {
		for j, second := range ranks {
			for _, f := range first {
				for _, s := range second {
					holdTwo(t, f, s, i < j, i == single && j == single)
				}
			}
		}
	}
}

func holdTwo(t *testing.T, first, second string, right, wrong bool) {
	t.Helper()
	text := "a " + first + " b " + second + " c"
	n, d := Expr(text)
	if wrong {
		if want := diagAt(1, len("a "+first+" b ")+1, api.ErrToken); d != want {
			t.Errorf("%q: %v, not %v", text, d, want)
		}
		return
	}
	want := "((a " + first + " b) " + second + " c)"
	if right {
		want = "(a " + first + " (b " + second + " c))"
	}
	if d != (api.Diag{}) || tree.Expr(n) != want {
		t.Errorf("%q: %s, %v, not %s", text, tree.Expr(n), d, want)
	}
}

// P5.1: is, as, not and - among operations.
func TestMixed(t *testing.T) {
	for text, want := range map[string]string{
		"a - b - c * d":                     "((a - b) - (c * d))",
		"a - b - c - d":                     "(((a - b) - c) - d)",
		"a - (b - c)":                       "(a - (b - c))",
		"-a * b":                            "((-a) * b)",
		"-a.b(c)":                           "(-a.b(c))",
		"a - -b":                            "(a - (-b))",
		"not a and b":                       "((not a) and b)",
		"not a < b":                         "((not a) < b)",
		"not a is int":                      "((not a) is int)",
		"a ++ b is str and c as int or d":   "((((a ++ b) is str) and (c as int)) or d)",
		"a + b as int -> int or c":          "(((a + b) as int -> int) or c)",
		"a or b and c == d ++ e ^ f >> g":   "(a or (b and (c == (d ++ (e ^ (f >> g))))))",
		"a << b & c ^ d ++ e <= f and g":    "((((((a << b) & c) ^ d) ++ e) <= f) and g)",
		"if a or b then c or d else e or f": "(if (a or b) then (c or d) else (e or f))",
		"fn (x) => x + 1":                   "(fn (x: any) => (x + 1))",
		"let x = a or b; x or c":            "(let x = (a or b); (x or c))",
		"(fn (x) => x) + 1":                 "((fn (x: any) => x) + 1)",
		"print(a or b) + f(c or d)":         "(print((a or b)) + f((c or d)))",
		"{a or b with c: d or e}":           "{(a or b) with c: (d or e)}",
		"{c: d or e, f: -g}":                "{c: (d or e), f: (-g)}",
	} {
		n, d := Expr(text)
		if d != (api.Diag{}) || tree.Expr(n) != want {
			t.Errorf("%q: %s, %v, not %s", text, tree.Expr(n), d, want)
		}
	}
}

// P5.1, P5.4: types as they stand.
func TestTypes(t *testing.T) {
	i, s, n := leaf(api.TInt), leaf(api.TStr), leaf(api.TNull)
	a, b := variable("A"), variable("B")
	for text, want := range map[string]api.Type{
		"any": leaf(api.TAny), "null": n, "bool": leaf(api.TBool), "int": i, "str": s, "A": a,
		"(int)":                          i,
		"((A))":                          a,
		"{}":                             recordOf(""),
		"{b: int}":                       recordOf("b", i),
		"{b: int, a: {}, b: A -> str}":   recordOf("b a b", i, recordOf(""), function(a, s)),
		"int | null":                     union(i, n),
		"int | null | int":               union(i, n, i),
		"int | (null | str)":             union(i, union(n, s)),
		"(int | null) | str":             union(union(i, n), s),
		"(int | null)":                   union(i, n),
		"((int | null))":                 union(i, n),
		"int -> str":                     function(i, s),
		"int -> str -> A":                function(i, function(s, a)),
		"(int -> str) -> A":              function(function(i, s), a),
		"int -> (str -> A)":              function(i, function(s, a)),
		"int | null -> {a: str}":         function(union(i, n), recordOf("a", s)),
		"int | null -> str | A":          function(union(i, n), union(s, a)),
		"int | (null -> str)":            union(i, function(n, s)),
		"(int | null) -> str":            function(union(i, n), s),
		"(A -> B) | {} | (A | B) -> any": function(union(function(a, b), recordOf(""), union(a, b)), leaf(api.TAny)),
	} {
		got, d := Type(text)
		if d != (api.Diag{}) || shown(got) != shown(want) {
			t.Errorf("%q: %+v, %v", text, got, d)
		}
	}
}

// P5.1, P5.2: modules, with all that may be left out and that may stand.
func TestModules(t *testing.T) {
	i, s, none := leaf(api.TInt), leaf(api.TStr), leaf(api.TAny)
	x := func(line, col int) api.Node { return api.Node{Kind: api.NName, Text: "x", Line: line, Col: col} }
	decl := func(types []api.Type, body api.Node, line, col int, vars ...api.Var) api.Decl {
		return api.Decl{Name: "f", Param: "x", Types: types, Body: body, Line: line, Col: col, Vars: vars}
	}
	exported := func(d api.Decl) api.Decl { d.Export = true; return d }
	for text, want := range map[string]api.Module{
		"":             {},
		" # nothing\n": {},
		"import a: b;": {Imports: []api.Import{{From: "a", Names: []string{"b"}, Line: 1, Col: 1}}},
		"import a: b;\n import\na: c, a, c;": {Imports: []api.Import{
			{From: "a", Names: []string{"b"}, Line: 1, Col: 1}, {From: "a", Names: []string{"c", "a", "c"}, Line: 2, Col: 2}}},
		"fn f(x) = x;":              {Decls: []api.Decl{decl([]api.Type{none, none}, x(1, 11), 1, 1)}},
		"fn f(x: int) = x;":         {Decls: []api.Decl{decl([]api.Type{i, none}, x(1, 16), 1, 1)}},
		"fn f(x): int = x;":         {Decls: []api.Decl{decl([]api.Type{none, i}, x(1, 16), 1, 1)}},
		"\n fn f(x: int): str = x;": {Decls: []api.Decl{decl([]api.Type{i, s}, x(2, 22), 2, 2)}},
		"export fn f(x) = (x);":     {Decls: []api.Decl{exported(decl([]api.Type{none, none}, x(1, 19), 1, 8))}},
		"export\n\n fn\nf(x) =\nx;": {Decls: []api.Decl{exported(decl([]api.Type{none, none}, x(5, 1), 3, 2))}},
		"fn f[A](x: A) = x;":        {Decls: []api.Decl{decl([]api.Type{variable("A"), none}, x(1, 17), 1, 1, api.Var{Name: "A"})}},
		"fn f[A <: int, B](x) = x;": {Decls: []api.Decl{decl([]api.Type{none, none}, x(1, 24), 1, 1, api.Var{Name: "A", Bound: i}, api.Var{Name: "B"})}},
		"fn f[A, B <: A | str](x) = x;": {Decls: []api.Decl{decl([]api.Type{none, none}, x(1, 28), 1, 1,
			api.Var{Name: "A"}, api.Var{Name: "B", Bound: union(variable("A"), s)})}},
		"import a: b; fn f(x) = x;\nexport fn f(x) = x; fn f(x) = x;": {
			Imports: []api.Import{{From: "a", Names: []string{"b"}, Line: 1, Col: 1}},
			Decls: []api.Decl{decl([]api.Type{none, none}, x(1, 24), 1, 14),
				exported(decl([]api.Type{none, none}, x(2, 18), 2, 8)), decl([]api.Type{none, none}, x(2, 31), 2, 21)}},
	} {
		got, d := Parse(text)
		if d != (api.Diag{}) || shown(got) != shown(want) {
			t.Errorf("%q: %+v, %v", text, got, d)
		}
	}
}

// P5.3, P5.4: what is wrong first, at its place; what lex refuses ahead of all.
func TestWrong(t *testing.T) {
	long, many := strings.Repeat(" ", api.MaxText), strings.Repeat("- ", api.MaxTokens)
	for _, c := range []struct {
		rule, text string
		want       api.Diag
	}{
		{"module", "fn f(x) = ;", diagAt(1, 11, api.ErrToken)},
		{"module", "fn f(x) = x", diagAt(1, 12, api.ErrToken)},
		{"module", "fn f(x) = x; import a: b;", diagAt(1, 14, api.ErrToken)},
		{"module", "export import a: b;", diagAt(1, 8, api.ErrToken)},
		{"module", "import a: ;", diagAt(1, 11, api.ErrToken)},
		{"module", "fn f[](x) = x;", diagAt(1, 6, api.ErrToken)},
		{"module", "fn f() = x;", diagAt(1, 6, api.ErrToken)},
		{"module", "fn let(x) = x;", diagAt(1, 4, api.ErrToken)},
		{"module", "1", diagAt(1, 1, api.ErrToken)},
		{"module", "fn f(x) = x;;\nfn g", diagAt(1, 13, api.ErrToken)},
		{"module", "fn f(x) = \n", diagAt(2, 1, api.ErrToken)},
		{"module", "fn f(x) = ; ) ?", diagAt(1, 15, api.ErrChar)},
		{"module", "fn f(x) = ; 007", diagAt(1, 13, api.ErrNumber)},
		{"module", "fn f(x) = ; \"a", diagAt(1, 13, api.ErrString)},
		{"module", long, api.Diag{}},
		{"module", long + " ", diagAt(1, 1, api.ErrLong)},
		{"module", "; " + strings.Repeat("n", 33), diagAt(1, 3, api.ErrLong)},
		{"module", "; " + many, diagAt(1, 2*api.MaxTokens+1, api.ErrMany)},
		{"module", many, diagAt(1, 1, api.ErrToken)},
		{"wholeexpr", "", diagAt(1, 1, api.ErrToken)},
		{"wholeexpr", "a < b < c", diagAt(1, 7, api.ErrToken)},
		{"wholeexpr", "a b c d", diagAt(1, 3, api.ErrToken)},
		{"wholeexpr", "a;", diagAt(1, 2, api.ErrToken)},
		{"wholeexpr", "fn f(x) = x;", diagAt(1, 4, api.ErrToken)},
		{"wholeexpr", "a as int as int", diagAt(1, 10, api.ErrToken)},
		{"wholeexpr", "a is any", diagAt(1, 6, api.ErrToken)},
		{"wholeexpr", "a as record", diagAt(1, 6, api.ErrToken)},
		{"wholeexpr", "1 + let x = 1; x", diagAt(1, 5, api.ErrToken)},
		{"wholeexpr", "- fn (x) => x", diagAt(1, 3, api.ErrToken)},
		{"wholeexpr", "f(x)[int]", diagAt(1, 5, api.ErrToken)},
		{"wholeexpr", "f[]", diagAt(1, 3, api.ErrToken)},
		{"wholeexpr", "{a: 1 with b: 2}", diagAt(1, 7, api.ErrToken)},
		{"wholeexpr", "{a, b: 1}", diagAt(1, 3, api.ErrToken)},
		{"wholeexpr", "{a: 1,}", diagAt(1, 7, api.ErrToken)},
		{"wholeexpr", "{(a): 1}", diagAt(1, 5, api.ErrToken)},
		{"wholeexpr", "{\"}\"}", diagAt(1, 5, api.ErrToken)},
		{"wholeexpr", "{1: 2}", diagAt(1, 3, api.ErrToken)},
		{"wholeexpr", "read(x)", diagAt(1, 6, api.ErrToken)},
		{"wholeexpr", "print a", diagAt(1, 7, api.ErrToken)},
		{"wholeexpr", "a in b", diagAt(1, 3, api.ErrToken)},
		{"wholeexpr", "a \"+\" b", diagAt(1, 3, api.ErrToken)},
		{"wholeexpr", "a b ?", diagAt(1, 5, api.ErrChar)},
		{"wholetype", "", diagAt(1, 1, api.ErrToken)},
		{"wholetype", "int str", diagAt(1, 5, api.ErrToken)},
		{"wholetype", "int |", diagAt(1, 6, api.ErrToken)},
		{"wholetype", "int | -> str", diagAt(1, 7, api.ErrToken)},
		{"wholetype", "{a: int,}", diagAt(1, 9, api.ErrToken)},
		{"wholetype", "{a int}", diagAt(1, 4, api.ErrToken)},
		{"wholetype", "()", diagAt(1, 2, api.ErrToken)},
		{"wholetype", "function", diagAt(1, 1, api.ErrToken)},
		{"wholetype", "A[int]", diagAt(1, 2, api.ErrToken)},
		{"wholetype", "\"int\"", diagAt(1, 1, api.ErrToken)},
		{"wholetype", "int -> ?", diagAt(1, 8, api.ErrChar)},
	} {
		hold(t, c.rule, c.text, c.want)
	}
}

// P5.1: as many as lex has, of all that comes one behind the other: none of these is within another.
func TestMany(t *testing.T) {
	for rule, texts := range map[string][]string{
		"module":    {strings.Repeat("import a: b;", 1365), strings.Repeat("fn f(x)=1;", 910), "import a: b" + strings.Repeat(", b", 4090) + ";"},
		"wholeexpr": {"a" + strings.Repeat(" - a", 4095), "f" + strings.Repeat("(a)", 2730), "f" + strings.Repeat(".a", 4095), "{a: 1" + strings.Repeat(", a: 1", 2046) + "}"},
		"wholetype": {"a" + strings.Repeat("|a", 4095), "{a: a" + strings.Repeat(", a: a", 2046) + "}"},
	} {
		for _, text := range texts {
			hold(t, rule, text, api.Diag{})
		}
	}
	n, _ := Expr("a" + strings.Repeat(" - a", 4095))
	for col := 4*4095 - 1; col > 0; col -= 4 {
		if n.Kind != api.NOp || n.Col != col || n.Kids[1].Col != col+2 {
			t.Fatalf("%d %d", n.Kind, n.Col)
		}
		n = n.Kids[0]
	}
}

// lists walks a value and tells of each list of it that has elements.
func lists(v reflect.Value, tell func(from, to uintptr)) {
	switch v.Kind() {
	case reflect.Struct:
		for i := range v.NumField() {
			lists(v.Field(i), tell)
		}
	case reflect.Slice:
		if v.Len() > 0 {
			tell(v.Pointer(), v.Pointer()+uintptr(v.Cap())*v.Type().Elem().Size())
		}
		for i := range v.Len() {
			lists(v.Index(i), tell)
		}
	}
}

// R3, R5: no two lists of what is answered share memory, and no two answers.
func TestOwnMemory(t *testing.T) {
	for rule, texts := range goodTexts() {
		for _, text := range texts {
			var ranges [][2]uintptr
			one, _ := calls()[rule](text)
			two, _ := calls()[rule](text)
			for _, answer := range []any{one, two} {
				lists(reflect.ValueOf(answer), func(from, to uintptr) {
					for _, r := range ranges {
						if from < r[1] && r[0] < to {
							t.Errorf("%s %q: two lists share memory", rule, text)
						}
					}
					ranges = append(ranges, [2]uintptr{from, to})
				})
			}
			if shown(one) != shown(two) {
				t.Errorf("%s %q: %v, then %v", rule, text, one, two)
			}
		}
	}
}

// P1: texts that are none at all.
func TestAnyBytes(t *testing.T) {
	for b := range 256 {
		for rule, call := range calls() {
			for _, text := range []string{string([]byte{byte(b)}), string([]byte{byte(b), byte(b)}), string([]byte{'a', byte(b), 'b'})} {
				if _, d := call(text); d.E == api.OK && d != (api.Diag{}) || d.E != api.OK && d.Line == 0 {
					t.Errorf("%s %q: %v", rule, text, d)
				}
			}
		}
	}
}
