package tree

import (
	"fmt"
	"math"
	"reflect"
	"slices"
	"strings"
	"testing"

	"gradus/api"
	"gradus/lex"
)

const allOps = "or and < <= == ++ + - ^ * / % & << >>"

const ownWords = "and any as bool else export false fn function if import in int is let not null or print read record str then true with"

func leaf(kind int) api.Type { return api.Type{Kind: kind} }

func function(takes, answers api.Type) api.Type {
	return api.Type{Kind: api.TFun, Kids: []api.Type{takes, answers}}
}

func union(kids ...api.Type) api.Type { return api.Type{Kind: api.TUnion, Kids: kids} }

func record(names string, kids ...api.Type) api.Type {
	return api.Type{Kind: api.TRec, Names: strings.Fields(names), Kids: kids}
}

func variable(name string) api.Type { return api.Type{Kind: api.TVar, Name: name} }

var (
	anyType  = leaf(api.TAny)
	nullType = leaf(api.TNull)
	boolType = leaf(api.TBool)
	intType  = leaf(api.TInt)
	strType  = leaf(api.TStr)
	intToInt = function(intType, intType)
	orNull   = union(intType, nullType)
)

func types(list ...api.Type) []api.Type { return list }

func number(n int) api.Node { return api.Node{Kind: api.NInt, N: n} }

func quoted(s string) api.Node { return api.Node{Kind: api.NStr, Text: s} }

func named(s string) api.Node { return api.Node{Kind: api.NName, Text: s} }

func parent(kind int, kids ...api.Node) api.Node { return api.Node{Kind: kind, Kids: kids} }

func texted(kind int, text string, kids ...api.Node) api.Node {
	return api.Node{Kind: kind, Text: text, Kids: kids}
}

func letIn(name string, t []api.Type, is, rest api.Node) api.Node {
	return api.Node{Kind: api.NLet, Text: name, Types: t, Kids: []api.Node{is, rest}}
}

func fn(name string, t []api.Type, body api.Node) api.Node {
	return api.Node{Kind: api.NFn, Text: name, Types: t, Kids: []api.Node{body}}
}

func recordOf(names string, kids ...api.Node) api.Node {
	return api.Node{Kind: api.NRec, Names: strings.Fields(names), Kids: kids}
}

func is(tag int, kid api.Node) api.Node {
	return api.Node{Kind: api.NIs, N: tag, Kids: []api.Node{kid}}
}

func as(kid api.Node, t ...api.Type) api.Node {
	return api.Node{Kind: api.NAs, Types: t, Kids: []api.Node{kid}}
}

func inst(name string, t ...api.Type) api.Node {
	return api.Node{Kind: api.NInst, Text: name, Types: t}
}

var a, b, c = named("a"), named("b"), named("c")

// samples has an expression of each Kind, at the Kind's number.
func samples() []api.Node {
	return []api.Node{
		api.NInt:   number(7),
		api.NStr:   quoted("s"),
		api.NBool:  {Kind: api.NBool, N: 1},
		api.NNull:  {Kind: api.NNull},
		api.NName:  a,
		api.NLet:   letIn("x", types(intType), a, b),
		api.NFn:    fn("x", types(intType, strType), a),
		api.NCall:  parent(api.NCall, a, b),
		api.NRec:   recordOf("p q", a, b),
		api.NSel:   texted(api.NSel, "p", a),
		api.NWith:  texted(api.NWith, "p", a, b),
		api.NIf:    parent(api.NIf, a, b, c),
		api.NIs:    is(api.TagStr, a),
		api.NAs:    as(a, strType),
		api.NOp:    texted(api.NOp, "+", a, b),
		api.NNot:   parent(api.NNot, a),
		api.NNeg:   parent(api.NNeg, a),
		api.NPrint: parent(api.NPrint, a),
		api.NRead:  {Kind: api.NRead},
		api.NInst:  inst("f", intType, strType),
	}
}

// typeSamples is the same for written types.
func typeSamples() []api.Type {
	return []api.Type{anyType, nullType, boolType, intType, strType, record("p q", intType, strType), intToInt, orNull, variable("A")}
}

func decl(body api.Node) api.Decl {
	return api.Decl{Name: "f", Param: "x", Types: types(intType, strType), Body: body}
}

func withDecl(d api.Decl) api.Module { return api.Module{Decls: []api.Decl{d}} }

func withBody(n api.Node) api.Module { return withDecl(decl(n)) }

func withImport(from string, names ...string) api.Module {
	return api.Module{Imports: []api.Import{{From: from, Names: names}}}
}

// deepNode has so many expressions within one another, each the last Kid of the one round it; as many Kinds have a turn.
func deepNode(height int, last api.Node) api.Node {
	n := last
	for i := range height - 1 {
		all := samples()
		outer := all[api.NLet+i%(api.NPrint-api.NLet+1)]
		outer.Kids[len(outer.Kids)-1] = n
		n = outer
	}
	return n
}

func deepType(height int, last api.Type) api.Type {
	t := last
	for i := range height - 1 {
		switch i % 4 {
		case 0:
			t = record("p q", strType, t)
		case 1:
			t = function(t, intType)
		case 2:
			t = union(nullType, t)
		case 3:
			t = function(intType, t)
		}
	}
	return t
}

// The second reading: the chapter's section Words, sentence by sentence, of trees that are as small as these tests have
// them. Both answer 0 for what is none.

func mayBeName(s string) bool {
	if len(s) < 1 || len(s) > 32 || slices.Contains(strings.Fields(ownWords), s) {
		return false
	}
	return strings.Trim(s, "_0123456789abcdefghijklmnopqrstuvwxyzABCDEFGHIJKLMNOPQRSTUVWXYZ") == "" && !strings.Contains("0123456789", s[:1])
}

func typeHeight(t api.Type) int {
	high := 0
	for _, kid := range t.Kids {
		h := typeHeight(kid)
		if h == 0 {
			return 0
		}
		high = max(high, h)
	}
	for _, name := range t.Names {
		if !mayBeName(name) {
			return 0
		}
	}
	has := fmt.Sprintf("%d kids %d names %v", len(t.Kids), len(t.Names), t.Name != "")
	ok := false
	switch t.Kind {
	case api.TAny, api.TNull, api.TBool, api.TInt, api.TStr:
		ok = has == "0 kids 0 names false"
	case api.TRec:
		ok = len(t.Names) == len(t.Kids) && t.Name == ""
	case api.TFun:
		ok = has == "2 kids 0 names false"
	case api.TUnion:
		ok = len(t.Kids) >= 2 && len(t.Names) == 0 && t.Name == ""
	case api.TVar:
		ok = has == "0 kids 0 names true" && mayBeName(t.Name)
	}
	if !ok {
		return 0
	}
	return high + 1
}

func written(t api.Type) bool {
	h := typeHeight(t)
	return h > 0 && h <= 16
}

// nodeHeight counts a written type that is too high as none at all, as P4.5 does.
func nodeHeight(n api.Node) int {
	high := 0
	for _, kid := range n.Kids {
		h := nodeHeight(kid)
		if h == 0 {
			return 0
		}
		high = max(high, h)
	}
	for _, t := range n.Types {
		if !written(t) {
			return 0
		}
	}
	for _, name := range n.Names {
		if !mayBeName(name) {
			return 0
		}
	}
	if !rightText(n) || !rightNumber(n) || !rightLists(n) {
		return 0
	}
	return high + 1
}

func rightText(n api.Node) bool {
	switch n.Kind {
	case api.NStr:
		low := strings.IndexFunc(n.Text, func(r rune) bool { return r < 32 && r != 9 && r != 10 })
		return len(n.Text) <= 256 && low < 0
	case api.NOp:
		return slices.Contains(strings.Fields(allOps), n.Text)
	case api.NName, api.NLet, api.NFn, api.NSel, api.NWith, api.NInst:
		return mayBeName(n.Text)
	}
	return n.Text == ""
}

func rightNumber(n api.Node) bool {
	switch n.Kind {
	case api.NInt:
		return n.N >= 0
	case api.NBool:
		return n.N == 0 || n.N == 1
	case api.NIs:
		return n.N >= 0 && n.N <= 5
	}
	return n.N == 0
}

func rightLists(n api.Node) bool {
	kids, names, types := len(n.Kids), len(n.Names), len(n.Types)
	switch n.Kind {
	case api.NRec:
		return names == kids && types == 0
	case api.NLet:
		return kids == 2 && names == 0 && types < 2
	case api.NFn:
		return kids == 1 && names == 0 && (types == 1 || types == 2)
	case api.NAs:
		return kids == 1 && names == 0 && types == 1
	case api.NInst:
		return kids == 0 && names == 0 && types > 0
	}
	if names > 0 || types > 0 {
		return false
	}
	switch n.Kind {
	case api.NInt, api.NStr, api.NBool, api.NNull, api.NName, api.NRead:
		return kids == 0
	case api.NSel, api.NIs, api.NNot, api.NNeg, api.NPrint:
		return kids == 1
	case api.NCall, api.NWith, api.NOp:
		return kids == 2
	case api.NIf:
		return kids == 3
	}
	return false
}

func expression(n api.Node) bool {
	h := nodeHeight(n)
	return h > 0 && h <= 25
}

func printable(m api.Module) bool {
	for _, i := range m.Imports {
		if !mayBeName(i.From) || len(i.Names) == 0 || slices.ContainsFunc(i.Names, func(s string) bool { return !mayBeName(s) }) {
			return false
		}
	}
	for _, d := range m.Decls {
		if !mayBeName(d.Name) || !mayBeName(d.Param) || len(d.Types) != 2 || !written(d.Types[0]) || !written(d.Types[1]) || !expression(d.Body) {
			return false
		}
		for _, v := range d.Vars {
			if !mayBeName(v.Name) || !written(v.Bound) {
				return false
			}
		}
	}
	return true
}

// The texts, by forms that are filled in: E, F, G are Kids, T, U Types, X the Text, W what N says, L a list.

func filled(form string, parts ...string) string {
	return strings.NewReplacer(parts...).Replace(form)
}

func expectedType(t api.Type) string {
	if t.Kind == api.TVar {
		return t.Name
	}
	if t.Kind <= api.TStr {
		return strings.Fields("any null bool int str")[t.Kind]
	}
	kids := make([]string, len(t.Kids))
	for i, kid := range t.Kids {
		kids[i] = expectedType(kid)
		switch {
		case t.Kind == api.TRec:
			kids[i] = t.Names[i] + ": " + kids[i]
		case kid.Kind == api.TFun && (t.Kind == api.TUnion || i == 0), kid.Kind == api.TUnion && t.Kind == api.TUnion:
			kids[i] = "(" + kids[i] + ")"
		}
	}
	switch t.Kind {
	case api.TRec:
		return "{" + strings.Join(kids, ", ") + "}"
	case api.TFun:
		return strings.Join(kids, " -> ")
	}
	return strings.Join(kids, " | ")
}

func formOf(n api.Node) string {
	forms := map[int]string{
		api.NNull: "null", api.NRead: "read()", api.NInt: "W", api.NName: "X", api.NStr: "Q",
		api.NBool: strings.Fields("false true W")[min(n.N, 2)],
		api.NLet:  "(let X: T = E; F)", api.NFn: "(fn (X: T): U => E)", api.NIf: "(if E then F else G)",
		api.NCall: "E(F)", api.NSel: "E.X", api.NWith: "{E with X: F}", api.NRec: "{L}",
		api.NIs: "(E is " + strings.Fields("null bool int str record function W")[min(n.N, 6)] + ")",
		api.NAs: "(E as T)", api.NOp: "(E X F)", api.NNot: "(not E)", api.NNeg: "(-E)", api.NPrint: "print(E)", api.NInst: "X[M]",
	}
	if n.Kind == api.NLet && len(n.Types) == 0 {
		return "(let X = E; F)"
	}
	if n.Kind == api.NFn && len(n.Types) == 1 {
		return "(fn (X: T) => E)"
	}
	return forms[n.Kind]
}

func expectedExpr(n api.Node) string {
	parts := []string{"X", n.Text, "W", fmt.Sprint(n.N), "Q", lex.Quote(n.Text)}
	fields, list := []string{}, []string{}
	for i, kid := range n.Kids {
		text := expectedExpr(kid)
		if n.Kind == api.NRec {
			fields = append(fields, n.Names[i]+": "+text)
		} else {
			parts = append(parts, string("EFG"[i]), text)
		}
	}
	for i, t := range n.Types {
		list = append(list, expectedType(t))
		if i < 2 {
			parts = append(parts, string("TU"[i]), list[i])
		}
	}
	return filled(formOf(n), append(parts, "L", strings.Join(fields, ", "), "M", strings.Join(list, ", "))...)
}

func expectedModule(m api.Module) string {
	out := ""
	for _, i := range m.Imports {
		out += fmt.Sprintf("import %s: %s;\n", i.From, strings.Join(i.Names, ", "))
	}
	for _, d := range m.Decls {
		export, vars := "", []string{}
		if d.Export {
			export = "export "
		}
		for _, v := range d.Vars {
			vars = append(vars, strings.TrimSuffix(v.Name+" <: "+expectedType(v.Bound), " <: any"))
		}
		inSquares := ""
		if len(vars) > 0 {
			inSquares = "[" + strings.Join(vars, ", ") + "]"
		}
		out += fmt.Sprintf("%sfn %s%s(%s: %s): %s = %s;\n", export, d.Name, inSquares, d.Param, expectedType(d.Types[0]), expectedType(d.Types[1]), expectedExpr(d.Body))
	}
	return out
}

// copyAll is a copy in full, in which lists that are nil stay nil.
func copyAll[T any](v T) T {
	return copyValue(reflect.ValueOf(v)).Interface().(T)
}

func copyValue(v reflect.Value) reflect.Value {
	own := reflect.New(v.Type()).Elem()
	own.Set(v)
	switch v.Kind() {
	case reflect.Struct:
		for i := range v.NumField() {
			own.Field(i).Set(copyValue(v.Field(i)))
		}
	case reflect.Slice:
		if v.IsNil() {
			return own
		}
		own.Set(reflect.MakeSlice(v.Type(), v.Len(), v.Len()))
		for i := range v.Len() {
			own.Index(i).Set(copyValue(v.Index(i)))
		}
	}
	return own
}

// spoilAll writes over everything that can be reached from a value's lists.
func spoilAll(v reflect.Value) {
	switch v.Kind() {
	case reflect.Struct:
		for i := range v.NumField() {
			spoilAll(v.Field(i))
		}
	case reflect.Slice:
		for i := range v.Len() {
			spoilAll(v.Index(i))
			if v.Index(i).Kind() == reflect.String {
				v.Index(i).SetString("spoilt")
			}
		}
		if v.Len() > 0 {
			v.Index(0).SetZero()
		}
	}
}

// stretches are the bounds in memory of all lists in a value, with the room behind them.
func stretches(v reflect.Value) [][2]uintptr {
	var out [][2]uintptr
	switch v.Kind() {
	case reflect.Struct:
		for i := range v.NumField() {
			out = append(out, stretches(v.Field(i))...)
		}
	case reflect.Slice:
		if size := uintptr(v.Cap()) * v.Type().Elem().Size(); size > 0 {
			out = append(out, [2]uintptr{v.Pointer(), v.Pointer() + size})
		}
		for i := range v.Len() {
			out = append(out, stretches(v.Index(i))...)
		}
	}
	return out
}

func overlap(list [][2]uintptr) bool {
	slices.SortFunc(list, func(a, b [2]uintptr) int {
		if a[0] < b[0] {
			return -1
		}
		return 1
	})
	for i := 1; i < len(list); i++ {
		if list[i][0] < list[i-1][1] {
			return true
		}
	}
	return false
}

// holdType, holdExpr and holdModule hold the calls against the second reading, and what was handed in against itself.

func holdType(t *testing.T, in api.Type) {
	t.Helper()
	before := copyAll(in)
	want := ""
	if written(in) {
		want = expectedType(in)
	}
	if got := Type(in); got != want {
		t.Errorf("Type(%+v) = %q, not %q", before, got, want)
	}
	if !reflect.DeepEqual(in, before) {
		t.Errorf("Type(%+v) has made it %+v", before, in)
	}
}

func holdExpr(t *testing.T, in api.Node) {
	t.Helper()
	before := copyAll(in)
	want := ""
	if expression(in) {
		want = expectedExpr(in)
	}
	if got := Expr(in); got != want {
		t.Errorf("Expr(%+v) = %q, not %q", before, got, want)
	}
	if !reflect.DeepEqual(in, before) {
		t.Errorf("Expr(%+v) has made it %+v", before, in)
	}
}

func holdModule(t *testing.T, in api.Module) {
	t.Helper()
	before := copyAll(in)
	want := ""
	if printable(in) {
		want = expectedModule(in)
	}
	if got := May(in); got != printable(before) {
		t.Errorf("May(%+v) = %v", before, got)
	}
	if got := Print(in); got != want {
		t.Errorf("Print(%+v) = %q, not %q", before, got, want)
	}
	if !reflect.DeepEqual(in, before) {
		t.Errorf("%+v was handed in, and is %+v", before, in)
	}
	holdBare(t, in)
}

func holdBare(t *testing.T, in api.Module) {
	t.Helper()
	in = copyAll(in) // what is written over below is not the test's own
	before, want := copyAll(in), copyAll(in)
	withoutPlaces(reflect.ValueOf(&want).Elem())
	got := Bare(in)
	if fmt.Sprintf("%+v", got) != fmt.Sprintf("%+v", want) {
		t.Errorf("Bare(%+v) = %+v", before, got)
	}
	if overlap(append(stretches(reflect.ValueOf(got)), stretches(reflect.ValueOf(before))...)) {
		t.Errorf("Bare(%+v): lists share memory", before)
	}
	kept := copyAll(got)
	spoilAll(reflect.ValueOf(&got).Elem())
	if !reflect.DeepEqual(in, before) {
		t.Errorf("what Bare answered was changed, and %+v is %+v", before, in)
	}
	got = Bare(in)
	spoilAll(reflect.ValueOf(&in).Elem())
	if !reflect.DeepEqual(got, kept) {
		t.Errorf("what Bare was handed was changed, and its answer %+v is %+v", kept, got)
	}
}

// withoutPlaces is P4.6 by the fields' names.
func withoutPlaces(v reflect.Value) {
	switch v.Kind() {
	case reflect.Struct:
		for i := range v.NumField() {
			if name := v.Type().Field(i).Name; name == "Line" || name == "Col" {
				v.Field(i).SetInt(0)
			}
			withoutPlaces(v.Field(i))
		}
	case reflect.Slice:
		for i := range v.Len() {
			withoutPlaces(v.Index(i))
		}
	}
}

// inEachPlace hands on modules in each of which a written type, or an expression, stands in another place.

func typeInEachPlace(in api.Type) []api.Module {
	d := decl(a)
	d.Types = types(in, intType)
	answers := decl(a)
	answers.Types = types(intType, in)
	bound := decl(a)
	bound.Vars = []api.Var{{Name: "A", Bound: anyType}, {Name: "B", Bound: in}}
	modules := []api.Module{withDecl(d), withDecl(answers), withDecl(bound)}
	for _, n := range []api.Node{
		letIn("x", types(in), a, b), fn("x", types(in), a), fn("x", types(in, intType), a), fn("x", types(intType, in), a),
		as(a, in), inst("f", in), inst("f", intType, intType, in), parent(api.NCall, a, as(b, in)), recordOf("p", inst("f", in)),
	} {
		modules = append(modules, withBody(n))
	}
	return modules
}

func nodeInEachPlace(in api.Node) []api.Module {
	modules := []api.Module{withBody(in), {Decls: []api.Decl{decl(a), decl(in)}}}
	for _, n := range samples() {
		for i := range n.Kids {
			outer := copyAll(n)
			outer.Kids[i] = in
			modules = append(modules, withBody(outer))
		}
	}
	return modules
}

// P4.1
func TestOps(t *testing.T) {
	want := []string{"or", "and", "<", "<=", "==", "++", "+", "-", "^", "*", "/", "%", "&", "<<", ">>"}
	got := Ops()
	if !reflect.DeepEqual(got, want) {
		t.Errorf("Ops() = %q", got)
	}
	clear(got)
	_ = append(got[:0], "spoilt")
	if again := Ops(); !reflect.DeepEqual(again, want) {
		t.Errorf("Ops() again = %q", again)
	}
	if Expr(texted(api.NOp, "or", a, b)) != "(a or b)" {
		t.Error("what Ops answered was changed, and an operation with it")
	}
}

// P4.3
func TestPrint(t *testing.T) {
	vars := func(list ...api.Var) []api.Var { return list }
	for want, m := range map[string]api.Module{
		"":                            {},
		"import lib: g;\n":            withImport("lib", "g"),
		"import lib: g, h, g;\n":      withImport("lib", "g", "h", "g"),
		"fn f(x: int): str = (-5);\n": withBody(parent(api.NNeg, number(5))),
		"import b: c, d;\nimport a: e;\nimport b: c;\nfn g(y: any): any = y;\nexport fn f(x: int): null = null;\n": {
			Imports: []api.Import{{From: "b", Names: []string{"c", "d"}, Line: 1, Col: 1}, {From: "a", Names: []string{"e"}, Line: -7}, {From: "b", Names: []string{"c"}}},
			Decls: []api.Decl{
				{Name: "g", Param: "y", Types: types(anyType, anyType), Body: named("y"), Line: 9, Col: 8},
				{Name: "f", Export: true, Param: "x", Types: types(intType, nullType), Body: api.Node{Kind: api.NNull, Line: 3, Col: -3}},
			},
		},
		"fn f[A](x: A): A = x;\n":          withDecl(api.Decl{Name: "f", Vars: vars(api.Var{Name: "A"}), Param: "x", Types: types(variable("A"), variable("A")), Body: named("x")}),
		"fn f[A <: int](x: A): any = x;\n": withDecl(api.Decl{Name: "f", Vars: vars(api.Var{Name: "A", Bound: intType}), Param: "x", Types: types(variable("A"), anyType), Body: named("x")}),
		"fn f[A, B <: {p: A}, C, D <: int -> any | null](x: int): str = x;\n": withDecl(api.Decl{Name: "f", Param: "x", Types: types(intType, strType), Body: named("x"),
			Vars: vars(api.Var{Name: "A"}, api.Var{Name: "B", Bound: record("p", variable("A"))}, api.Var{Name: "C"}, api.Var{Name: "D", Bound: function(intType, union(anyType, nullType))})}),
		"export fn f[A, A](f: int -> int): int | null = (a + f[A]);\n": withDecl(api.Decl{Name: "f", Export: true, Vars: vars(api.Var{Name: "A"}, api.Var{Name: "A"}), Param: "f",
			Types: types(intToInt, orNull), Body: texted(api.NOp, "+", a, inst("f", variable("A")))}),
	} {
		if !May(m) {
			t.Errorf("May of what is %q: false", want)
		}
		if got := Print(m); got != want {
			t.Errorf("Print = %q, not %q", got, want)
		}
		holdModule(t, m)
	}
}

// P4.4
func TestType(t *testing.T) {
	for _, one := range []struct {
		in   api.Type
		want string
	}{
		{anyType, "any"}, {nullType, "null"}, {boolType, "bool"}, {intType, "int"}, {strType, "str"},
		{variable("A"), "A"}, {variable("_"), "_"},
		{record(""), "{}"},
		{record("b", intType), "{b: int}"},
		{record("b a b", intType, strType, record("")), "{b: int, a: str, b: {}}"},
		{record("p q", intToInt, orNull), "{p: int -> int, q: int | null}"},
		{intToInt, "int -> int"},
		{function(intToInt, nullType), "(int -> int) -> null"},
		{function(nullType, intToInt), "null -> int -> int"},
		{function(function(intToInt, strType), boolType), "((int -> int) -> str) -> bool"},
		{function(orNull, orNull), "int | null -> int | null"},
		{function(record("p", intToInt), variable("B")), "{p: int -> int} -> B"},
		{union(strType, nullType, strType), "str | null | str"},
		{union(anyType, variable("A")), "any | A"},
		{union(intToInt, nullType), "(int -> int) | null"},
		{union(nullType, intToInt), "null | (int -> int)"},
		{union(orNull, strType), "(int | null) | str"},
		{union(strType, union(orNull, boolType)), "str | ((int | null) | bool)"},
		{union(record("p", orNull), record("p", orNull)), "{p: int | null} | {p: int | null}"},
		{union(function(orNull, orNull), orNull), "(int | null -> int | null) | (int | null)"},
		{api.Type{Kind: api.TInt, Names: []string{}, Kids: []api.Type{}}, "int"},
		{api.Type{Kind: api.TRec, Names: []string{}, Kids: nil}, "{}"},
		{api.Type{Kind: api.TVar, Name: "A", Names: []string{}, Kids: []api.Type{}}, "A"},
	} {
		if got := Type(one.in); got != one.want {
			t.Errorf("Type(%+v) = %q, not %q", one.in, got, one.want)
		}
		holdType(t, one.in)
		for _, m := range typeInEachPlace(one.in) {
			if !May(m) || !strings.Contains(Print(m), one.want) && one.want != "any" {
				t.Errorf("Print(%+v) = %q", m, Print(m))
			}
			holdModule(t, m)
		}
	}
}

// P4.5: the chapter's forms and examples.
func TestExpr(t *testing.T) {
	for _, one := range []struct {
		in   api.Node
		want string
	}{
		{texted(api.NOp, "-", a, b), "(a - b)"},
		{parent(api.NCall, named("f"), is(api.TagInt, named("x"))), "f((x is int))"},
		{number(0), "0"}, {number(12), "12"}, {number(math.MaxInt), "9223372036854775807"},
		{quoted(""), `""`}, {quoted("a\"b\\\n\t\x7f\xff"), `"a\"b\\\n\t` + "\x7f\xff\""},
		{api.Node{Kind: api.NBool}, "false"}, {api.Node{Kind: api.NBool, N: 1}, "true"},
		{api.Node{Kind: api.NNull}, "null"}, {named("x1"), "x1"}, {api.Node{Kind: api.NRead}, "read()"},
		{letIn("x", nil, a, b), "(let x = a; b)"},
		{letIn("x", types(), a, b), "(let x = a; b)"},
		{letIn("x", types(intToInt), a, b), "(let x: int -> int = a; b)"},
		{letIn("x", types(anyType), a, b), "(let x: any = a; b)"},
		{fn("x", types(anyType), a), "(fn (x: any) => a)"},
		{fn("x", types(orNull, intToInt), a), "(fn (x: int | null): int -> int => a)"},
		{fn("x", types(intType, anyType), a), "(fn (x: int): any => a)"},
		{parent(api.NIf, a, b, c), "(if a then b else c)"},
		{parent(api.NCall, a, b), "a(b)"},
		{parent(api.NCall, parent(api.NCall, a, b), c), "a(b)(c)"},
		{parent(api.NCall, a, parent(api.NCall, b, c)), "a(b(c))"},
		{texted(api.NSel, "p", texted(api.NSel, "q", a)), "a.q.p"},
		{texted(api.NSel, "p", number(1)), "1.p"},
		{texted(api.NWith, "p", a, b), "{a with p: b}"},
		{texted(api.NWith, "p", recordOf("q", a), b), "{{q: a} with p: b}"},
		{recordOf(""), "{}"},
		{recordOf("p", a), "{p: a}"},
		{recordOf("q p q", a, b, c), "{q: a, p: b, q: c}"},
		{is(0, a), "(a is null)"}, {is(1, a), "(a is bool)"}, {is(2, a), "(a is int)"},
		{is(3, a), "(a is str)"}, {is(4, a), "(a is record)"}, {is(5, a), "(a is function)"},
		{as(a, function(intToInt, anyType)), "(a as (int -> int) -> any)"},
		{texted(api.NOp, "or", texted(api.NOp, "and", a, b), c), "((a and b) or c)"},
		{texted(api.NOp, "-", a, texted(api.NOp, "-", b, c)), "(a - (b - c))"},
		{parent(api.NNot, parent(api.NNot, a)), "(not (not a))"},
		{parent(api.NNeg, parent(api.NNeg, number(1))), "(-(-1))"},
		{parent(api.NPrint, quoted("s")), `print("s")`},
		{inst("f", intType), "f[int]"},
		{inst("f", intToInt, anyType, variable("A")), "f[int -> int, any, A]"},
		{parent(api.NCall, inst("id", record("p", intType)), recordOf("p", number(7))), "id[{p: int}]({p: 7})"},
		{api.Node{Kind: api.NName, Text: "a", Line: -5, Col: math.MaxInt}, "a"},
	} {
		if got := Expr(one.in); got != one.want {
			t.Errorf("Expr(%+v) = %q, not %q", one.in, got, one.want)
		}
		holdExpr(t, one.in)
		for _, m := range nodeInEachPlace(one.in) {
			if !May(m) || !strings.Contains(Print(m), one.want) {
				t.Errorf("Print(%+v) = %q", m, Print(m))
			}
			holdModule(t, m)
		}
	}
	for _, op := range strings.Fields(allOps) {
		if got := Expr(texted(api.NOp, op, a, b)); got != "(a "+op+" b)" {
			t.Errorf("of the operation %q: %q", op, got)
		}
	}
	for kind, n := range samples() {
		if n.Kind != kind || Expr(n) == "" {
			t.Errorf("the Kind %d is not printed", kind)
		}
	}
}

// P4.2, P4.5: how many within one another.
func TestHeights(t *testing.T) {
	for height := 1; height < 60; height++ {
		n, ty := deepNode(height, a), deepType(height, intType)
		if nodeHeight(n) != height {
			t.Fatalf("%+v is not %d high", n, height)
		}
		if got := Expr(n) != ""; got != (height <= 25) {
			t.Errorf("Expr of %d within one another: %v", height, got)
		}
		if got := May(withBody(n)); got != (height <= 25) {
			t.Errorf("May of %d within one another: %v", height, got)
		}
		if got := Type(ty) != ""; got != (height <= 16) {
			t.Errorf("Type of %d within one another: %v", height, got)
		}
		for _, m := range typeInEachPlace(ty) {
			if May(m) != (height <= 16) || (Print(m) != "") != (height <= 16) {
				t.Errorf("May(%+v) = %v", m, May(m))
			}
		}
		for _, kind := range []int{api.NNot, api.NNeg, api.NPrint} {
			one := a
			for range height - 1 {
				one = parent(kind, one)
			}
			holdExpr(t, one)
			holdModule(t, withBody(one))
		}
		holdExpr(t, n)
		holdType(t, ty)
		holdModule(t, withBody(n))
	}
	both := deepNode(25, inst("f", deepType(16, variable("A"))))
	if Expr(both) == "" || !May(withBody(both)) {
		t.Error("25 expressions and 16 types within one another are not printed")
	}
	for _, m := range nodeInEachPlace(deepNode(24, a)) {
		holdModule(t, m)
	}
	for _, m := range nodeInEachPlace(deepNode(25, a)) {
		holdModule(t, m)
	}
	holdExpr(t, parent(api.NIf, deepNode(25, a), a, a))
	holdExpr(t, parent(api.NIf, a, deepNode(25, a), a))
	holdExpr(t, recordOf("p q", deepNode(24, a), deepNode(25, a)))
	holdType(t, union(deepType(16, intType), intType, intType))
	holdType(t, record("p q r", intType, deepType(15, intType), intType))
}

// P4.5: the texts of strings.
func TestStrings(t *testing.T) {
	for length, may := range map[int]bool{0: true, 1: true, 255: true, 256: true, 257: false, 258: false, 5000: false} {
		for _, piece := range []string{"x", "\n", "\t", "\"", "\\", "\x80", "\xff"} {
			n := quoted(strings.Repeat(piece, length))
			if got := Expr(n) != ""; got != may {
				t.Errorf("%d times %q: %v", length, piece, got)
			}
			if got := May(withBody(n)); got != may {
				t.Errorf("May: %d times %q: %v", length, piece, got)
			}
			holdExpr(t, n)
		}
	}
	for i := range 256 {
		may := i >= 32 || i == 9 || i == 10
		for _, text := range []string{string([]byte{byte(i)}), "a" + string([]byte{byte(i)}) + "\n", "\t\t" + string([]byte{byte(i)})} {
			if got := Expr(quoted(text)); (got != "") != may || may && got != lex.Quote(text) {
				t.Errorf("Expr of the string %q: %q", text, got)
			}
			if got := May(withBody(parent(api.NPrint, quoted(text)))); got != may {
				t.Errorf("May of the string %q: %v", text, got)
			}
		}
	}
}

// P4.5: N at each end.
func TestNumbers(t *testing.T) {
	most := map[int]int{api.NInt: math.MaxInt, api.NBool: 1, api.NIs: 5}
	for kind, sample := range samples() {
		for _, n := range []int{math.MinInt, -2, -1, 0, 1, 2, 4, 5, 6, 7, 1 << 32, math.MaxInt} {
			sample.N = n
			may := n >= 0 && n <= most[kind]
			if got := Expr(sample) != ""; got != may {
				t.Errorf("the Kind %d with the N %d: %v", kind, n, got)
			}
			if got := May(withBody(sample)); got != may {
				t.Errorf("May of the Kind %d with the N %d: %v", kind, n, got)
			}
			holdExpr(t, sample)
		}
	}
}

// P4.2, P4.4, P4.5: names wherever they stand.
func TestNames(t *testing.T) {
	may := []string{"a", "Z", "_", "_1", "x_Y9", "lets", "Int", "main", strings.Repeat("n", 32)}
	mayNot := append(strings.Fields(ownWords), "", "1", "9a", "a b", " a", "a ", "a-b", "a.b", "ä", "a\n", "+", `"a"`, strings.Repeat("n", 33), strings.Repeat("n", 300))
	for i, name := range append(slices.Clone(may), mayNot...) {
		want := i < len(may)
		d := []api.Decl{decl(a), decl(a), decl(a), decl(a)}
		d[0].Name = name
		d[1].Param = name
		d[2].Vars = []api.Var{{Name: name}}
		d[3].Vars = []api.Var{{Name: "A"}, {Name: name, Bound: intType}}
		modules := []api.Module{withImport(name, "g"), withImport("lib", name), withImport("lib", "g", name), withImport("lib", name, "g")}
		for _, one := range d {
			modules = append(modules, withDecl(one))
		}
		for _, ty := range []api.Type{variable(name), {Kind: api.TRec, Names: []string{name}, Kids: types(intType)}, {Kind: api.TRec, Names: []string{"p", name}, Kids: types(intType, intType)}} {
			if got := Type(ty) != ""; got != want {
				t.Errorf("Type(%+v): %v", ty, got)
			}
			holdType(t, ty)
			modules = append(modules, typeInEachPlace(ty)...)
		}
		nodes := []api.Node{{Kind: api.NRec, Names: []string{name}, Kids: []api.Node{a}}, {Kind: api.NRec, Names: []string{"p", name}, Kids: []api.Node{a, a}}}
		for _, kind := range []int{api.NName, api.NLet, api.NFn, api.NSel, api.NWith, api.NInst} {
			n := samples()[kind]
			n.Text = name
			nodes = append(nodes, n)
		}
		for _, n := range nodes {
			if got := Expr(n) != ""; got != want {
				t.Errorf("Expr(%+v): %v", n, got)
			}
			holdExpr(t, n)
			modules = append(modules, nodeInEachPlace(n)...)
		}
		for _, m := range modules {
			if May(m) != want || (Print(m) != "") != want {
				t.Errorf("%q is a name: %v; May(%+v) = %v", name, want, m, May(m))
			}
		}
	}
}

// P4.2, P4.5: how many Types, Kids and Names there are.
func TestCounts(t *testing.T) {
	typeCounts := map[int][2]int{api.NLet: {0, 1}, api.NFn: {1, 2}, api.NAs: {1, 1}, api.NInst: {1, 99}}
	kidCounts := map[int]int{api.NRec: 2, api.NLet: 2, api.NFn: 1, api.NCall: 2, api.NSel: 1, api.NWith: 2, api.NIf: 3, api.NIs: 1, api.NAs: 1, api.NOp: 2, api.NNot: 1, api.NNeg: 1, api.NPrint: 1}
	for kind, sample := range samples() {
		for count := range 8 {
			n := sample
			n.Types = slices.Repeat(types(intType), count)
			want := count >= typeCounts[kind][0] && count <= typeCounts[kind][1]
			if got := Expr(n) != ""; got != want || May(withBody(n)) != want {
				t.Errorf("the Kind %d with %d Types: %v", kind, count, got)
			}
			n = sample
			n.Kids = slices.Repeat([]api.Node{a}, count)
			want = count == kidCounts[kind]
			if got := Expr(n) != ""; got != want || May(withBody(n)) != want {
				t.Errorf("the Kind %d with %d Kids: %v", kind, count, got)
			}
			n = sample
			n.Names = slices.Repeat([]string{"p"}, count)
			want = count == 0 && kind != api.NRec || count == 2 && kind == api.NRec
			if got := Expr(n) != ""; got != want || May(withBody(n)) != want {
				t.Errorf("the Kind %d with %d Names: %v", kind, count, got)
			}
		}
	}
	kidRange := map[int][2]int{api.TRec: {2, 2}, api.TFun: {2, 2}, api.TUnion: {2, 99}}
	for kind, sample := range typeSamples() {
		for count := range 8 {
			ty := sample
			ty.Kids = slices.Repeat(types(strType), count)
			want := count >= kidRange[kind][0] && count <= kidRange[kind][1]
			if got := Type(ty) != ""; got != want {
				t.Errorf("the type's Kind %d with %d Kids: %v", kind, count, got)
			}
			ty = sample
			ty.Names = slices.Repeat([]string{"p"}, count)
			want = count == 0 && kind != api.TRec || count == 2 && kind == api.TRec
			if got := Type(ty) != ""; got != want {
				t.Errorf("the type's Kind %d with %d Names: %v", kind, count, got)
			}
		}
	}
	for count := range 5 {
		d := decl(a)
		d.Types = slices.Repeat(types(intType), count)
		if got := May(withDecl(d)); got != (count == 2) || (Print(withDecl(d)) != "") != got {
			t.Errorf("a Decl with %d Types: %v", count, got)
		}
		m := withImport("lib", slices.Repeat([]string{"g"}, count)...)
		if got := May(m); got != (count > 0) || (Print(m) != "") != got {
			t.Errorf("an Import with %d Names: %v", count, got)
		}
	}
	wide := recordOf("", slices.Repeat([]api.Node{a}, 300)...)
	wide.Names = slices.Repeat([]string{"p"}, 300)
	wideType := record("", slices.Repeat(types(intType), 300)...)
	wideType.Names = wide.Names
	if Expr(wide) == "" || Type(wideType) == "" {
		t.Error("a record may have any number of fields here")
	}
	holdExpr(t, wide)
	holdType(t, wideType)
	holdType(t, union(slices.Repeat(types(intType), 300)...))
	holdExpr(t, inst("f", slices.Repeat(types(wideType), 300)...))
}

// P4.2, P4.4, P4.5: what is wrong in itself.
func TestWrong(t *testing.T) {
	for _, kind := range []int{math.MinInt, -2, -1, api.NKinds, api.NKinds + 1, 99, math.MaxInt} {
		n := api.Node{Kind: kind}
		if Expr(n) != "" || May(withBody(n)) || Print(withBody(n)) != "" {
			t.Errorf("the Kind %d is printed", kind)
		}
		for _, n := range samples() {
			n.Kind = kind
			for _, m := range nodeInEachPlace(n) {
				if May(m) || Print(m) != "" {
					t.Errorf("May(%+v)", m)
				}
			}
		}
	}
	for _, kind := range []int{math.MinInt, -1, 9, 10, math.MaxInt} {
		for _, ty := range typeSamples() {
			ty.Kind = kind
			if Type(ty) != "" || Type(record("p", ty)) != "" || Type(function(intType, ty)) != "" || Type(union(ty, intType)) != "" {
				t.Errorf("Type(%+v) is printed", ty)
			}
			for _, m := range typeInEachPlace(ty) {
				if May(m) || Print(m) != "" {
					t.Errorf("May(%+v)", m)
				}
			}
		}
	}
	for _, op := range []string{"", "is", "as", "not", "=", "|", "->", "<:", ">", ">=", "!=", "+ ", " +", "+-", "a", "OR", "or and", "with", "."} {
		n := texted(api.NOp, op, a, b)
		if Expr(n) != "" || May(withBody(n)) {
			t.Errorf("the operation %q is printed", op)
		}
	}
	withText := map[int]bool{api.NStr: true, api.NName: true, api.NLet: true, api.NFn: true, api.NSel: true, api.NWith: true, api.NInst: true}
	for kind, n := range samples() {
		n.Text = "z"
		if got := Expr(n) != ""; got != withText[kind] || May(withBody(n)) != got {
			t.Errorf("the Kind %d with a Text: %v", kind, got)
		}
		n.Text = ""
		want := kind == api.NStr || !withText[kind] && kind != api.NOp
		if got := Expr(n) != ""; got != want || May(withBody(n)) != got {
			t.Errorf("the Kind %d without a Text: %v", kind, got)
		}
	}
	for kind, ty := range typeSamples() {
		ty.Name = "z"
		if got := Type(ty) != ""; got != (kind == api.TVar) {
			t.Errorf("the type's Kind %d with a Name: %v", kind, got)
		}
		ty.Name = ""
		if got := Type(ty) != ""; got != (kind != api.TVar) {
			t.Errorf("the type's Kind %d without a Name: %v", kind, got)
		}
	}
	for _, m := range []api.Module{
		{Imports: []api.Import{{From: "lib", Names: []string{"g"}}, {}}},
		{Decls: []api.Decl{{}}},
		{Decls: []api.Decl{decl(a), {}}},
		{Imports: []api.Import{{From: "lib"}}, Decls: []api.Decl{decl(a)}},
		{Imports: []api.Import{{From: "lib", Names: []string{"g"}}}, Decls: []api.Decl{decl(api.Node{Kind: api.NName})}},
	} {
		if May(m) || Print(m) != "" {
			t.Errorf("May(%+v)", m)
		}
		holdModule(t, m)
	}
}

// R6: lists that are nil and lists that are empty tell the same.
func TestEmptyLists(t *testing.T) {
	for _, n := range samples() {
		bare, full := n, n
		for _, one := range []*api.Node{&bare, &full} {
			if len(n.Types) == 0 {
				one.Types = nil
			}
			if len(n.Names) == 0 {
				one.Names = nil
			}
			if len(n.Kids) == 0 {
				one.Kids = nil
			}
		}
		if full.Types == nil {
			full.Types = []api.Type{}
		}
		if full.Names == nil {
			full.Names = []string{}
		}
		if full.Kids == nil {
			full.Kids = []api.Node{}
		}
		if Expr(bare) == "" || Expr(bare) != Expr(full) || !May(withBody(full)) || !May(withBody(bare)) {
			t.Errorf("Expr(%+v) = %q, %q", n, Expr(bare), Expr(full))
		}
		holdModule(t, withBody(bare))
		holdModule(t, withBody(full))
	}
	for _, m := range []api.Module{{}, {Imports: []api.Import{}}, {Imports: []api.Import{}, Decls: []api.Decl{}}} {
		if !May(m) || Print(m) != "" {
			t.Error("of a module without anything")
		}
		holdModule(t, m)
	}
	d := decl(recordOf(""))
	d.Vars = []api.Var{}
	if got := Print(withDecl(d)); got != "fn f(x: int): str = {};\n" {
		t.Error(got)
	}
}

// P4.6, R3
func TestBare(t *testing.T) {
	at := func(n api.Node, line int) api.Node {
		n.Line, n.Col = line, -line
		return n
	}
	m := api.Module{
		Imports: []api.Import{{From: "lib", Names: []string{"g", "h"}, Line: 1, Col: 2}, {From: "let", Line: -3, Col: 4}},
		Decls: []api.Decl{
			{Name: "f", Export: true, Param: "x", Line: 5, Col: 6, Types: types(intType, record("p", intType)),
				Vars: []api.Var{{Name: "A", Bound: record("q", orNull)}},
				Body: at(letIn("x", types(intToInt), at(recordOf("p q", at(a, 7), at(inst("g", intToInt), 8)), 9), at(parent(api.NIf, at(a, 10), b, at(parent(api.NPrint, at(c, 11)), 12)), 13)), 14)},
			{Line: math.MinInt, Col: math.MaxInt, Types: types(anyType), Body: api.Node{Kind: -9, N: -4, Text: "?", Line: 1, Names: []string{"1"}, Types: types(leaf(77)), Kids: []api.Node{{Line: 2}}}},
		},
	}
	want := api.Module{
		Imports: []api.Import{{From: "lib", Names: []string{"g", "h"}}, {From: "let"}},
		Decls: []api.Decl{
			{Name: "f", Export: true, Param: "x", Types: types(intType, record("p", intType)),
				Vars: []api.Var{{Name: "A", Bound: record("q", orNull)}},
				Body: letIn("x", types(intToInt), recordOf("p q", a, inst("g", intToInt)), parent(api.NIf, a, b, parent(api.NPrint, c)))},
			{Types: types(anyType), Body: api.Node{Kind: -9, N: -4, Text: "?", Names: []string{"1"}, Types: types(leaf(77)), Kids: []api.Node{{}}}},
		},
	}
	if got := Bare(m); !reflect.DeepEqual(got, want) {
		t.Errorf("Bare = %+v", got)
	}
	if again := Bare(want); !reflect.DeepEqual(again, want) {
		t.Errorf("Bare again = %+v", again)
	}
	holdBare(t, m)
	for kind, n := range samples() {
		n.Line, n.Col = 3, 4
		for i := range n.Kids {
			n.Kids[i].Line, n.Kids[i].Col = i+1, i-1
		}
		if got := Bare(withBody(n)); !reflect.DeepEqual(got, withBody(samples()[kind])) {
			t.Errorf("Bare of the Kind %d = %+v", kind, got)
		}
	}
	if got := Bare(api.Module{}); len(got.Imports) != 0 || len(got.Decls) != 0 {
		t.Error("of nothing")
	}
}

// No two lists of one answer share memory, though those that were handed in do; nor is room behind a list written to.
func TestBareOfShared(t *testing.T) {
	names, kids := []string{"p", "q"}, []api.Node{a, b}
	list := types(intType, strType)
	shared := api.Type{Kind: api.TRec, Names: names, Kids: list}
	body := api.Node{Kind: api.NRec, Names: names, Kids: []api.Node{{Kind: api.NRec, Names: names, Kids: kids}, {Kind: api.NCall, Kids: kids}}}
	d := api.Decl{Name: "f", Param: "x", Types: list, Vars: []api.Var{{Name: "A", Bound: shared}, {Name: "B", Bound: shared}}, Body: body}
	m := api.Module{Imports: []api.Import{{From: "l", Names: names[:1]}, {From: "l", Names: names}}, Decls: []api.Decl{d, d}}
	got := Bare(m)
	if overlap(stretches(reflect.ValueOf(got))) {
		t.Error("lists of one answer share memory")
	}
	if Print(got) != Print(m) || Print(m) == "" {
		t.Error(Print(got))
	}
	got.Imports[0].Names = append(got.Imports[0].Names, "spoilt")
	if names[1] != "q" {
		t.Error("what is behind a list was written to")
	}
}

// R1: trees in which the same Kids stand so often that one by one they would not be gone through, or within themselves.
func TestSharedKids(t *testing.T) {
	node, ty := a, intType
	wrong, wrongType := api.Node{Kind: api.NName}, variable("")
	names := strings.Fields(strings.Repeat("p ", 50))
	for range 24 {
		kids, wrongKids := slices.Repeat([]api.Node{node}, 50), append(slices.Repeat([]api.Node{node}, 49), wrong)
		node = api.Node{Kind: api.NRec, Names: names, Kids: kids}
		wrong = api.Node{Kind: api.NRec, Names: names, Kids: wrongKids}
	}
	for range 15 {
		kids, wrongKids := slices.Repeat(types(ty), 50), append(slices.Repeat(types(ty), 49), wrongType)
		ty = api.Type{Kind: api.TRec, Names: names, Kids: kids}
		wrongType = api.Type{Kind: api.TRec, Names: names, Kids: wrongKids}
	}
	if !May(withBody(node)) || !May(typeInEachPlace(ty)[0]) {
		t.Error("what is as high as may be is refused")
	}
	if May(withBody(wrong)) || Expr(wrong) != "" || Type(wrongType) != "" || May(typeInEachPlace(wrongType)[0]) {
		t.Error("what is wrong at its end is not refused")
	}
	node = api.Node{Kind: api.NRec, Names: names, Kids: slices.Repeat([]api.Node{node}, 50)}
	ty = api.Type{Kind: api.TRec, Names: names, Kids: slices.Repeat(types(ty), 50)}
	if May(withBody(node)) || Expr(node) != "" || Type(ty) != "" {
		t.Error("what is one too high is not refused")
	}
	partly, partlyTypes := []api.Node{a, {Kind: api.NName}}, types(intType, variable(""))
	if Expr(parent(api.NCall, parent(api.NNot, partly[:1]...), parent(api.NCall, partly...))) != "" {
		t.Error("a list is taken for its own beginning")
	}
	if Type(function(record("p", partlyTypes[:1]...), union(partlyTypes...))) != "" {
		t.Error("a list of types is taken for its own beginning")
	}
	own := []api.Node{a, b}
	own[0], own[1] = parent(api.NCall, own...), parent(api.NCall, own...)
	own[0].Kids, own[1].Kids = own, own
	ownTypes := types(intType, intType)
	ownTypes[0].Kids, ownTypes[1].Kids = ownTypes, ownTypes
	ownTypes[0].Kind, ownTypes[1].Kind = api.TFun, api.TUnion
	if May(withBody(own[0])) || Expr(own[1]) != "" || Type(ownTypes[0]) != "" || May(withBody(as(a, ownTypes[1]))) {
		t.Error("what stands within itself is not refused")
	}
}

// R1: as much within one another as the document lets be given.
func TestVeryDeep(t *testing.T) {
	const high = 1 << 16
	node, ty := api.Node{Kind: api.NNull, Line: 1, Col: 1}, anyType
	for range high - 1 {
		node = api.Node{Kind: api.NNot, Kids: []api.Node{node}, Line: 1, Col: 1}
		ty = api.Type{Kind: api.TFun, Kids: types(anyType, ty)}
	}
	d := decl(node)
	d.Types[0] = ty
	if m := withDecl(d); May(m) || Print(m) != "" || Expr(node) != "" || Type(ty) != "" {
		t.Error("it is printed")
	}
	got := Bare(withDecl(d)).Decls[0]
	height := 0
	for n := got.Body; ; n = n.Kids[0] {
		height++
		if n.Line != 0 || n.Col != 0 {
			t.Fatalf("places of the expression %d", height)
		}
		if len(n.Kids) == 0 {
			break
		}
	}
	typeHeight := 1
	for ty := got.Types[0]; len(ty.Kids) > 0; ty = ty.Kids[1] {
		typeHeight++
	}
	if height != high || typeHeight != high {
		t.Errorf("Bare has made it %d and %d high", height, typeHeight)
	}
}
