package coerce

import (
	"fmt"
	"strings"
	"testing"

	"gradus/api"
)

func holdMake(t *testing.T, a, b api.Type, label int, want api.Co) {
	t.Helper()
	if got := Make(a, b, label); !alike(got, want) {
		t.Errorf("Make(%s, %s, %d): %s, not %s", short(a), short(b), label, told(got), told(want))
	}
}

// making is a row: the texts of two types, and that of Make of them and the label 2.
type making struct{ a, b, want string }

// holdMakings holds each row with the label 2, and with others in the place of 2 and 3.
func holdMakings(t *testing.T, rows []making) {
	t.Helper()
	for _, r := range rows {
		for _, label := range []int{2, 3, 4, 7, -1, -2, 1 << 40, 1<<63 - 1, -1 << 63} {
			want := relabelled(co(r.want), map[int]int{2: label, 3: label ^ 1})
			holdMake(t, typ(r.a), typ(r.b), label, want)
		}
	}
}

func relabelled(c api.Co, by map[int]int) api.Co {
	for i, label := range c.Tags {
		c.Tags[i] = by[label]
	}
	for i, need := range c.Needs {
		c.Needs[i].Label = by[need.Label]
	}
	for _, list := range [][]api.Co{c.Fields, c.Fun} {
		for i := range list {
			list[i] = relabelled(list[i], by)
		}
	}
	return c
}

// P10.2: base types, unions of these and any; a part without a counterpart.
func TestMakeOfBaseTypes(t *testing.T) {
	base := []string{"null", "bool", "int", "str"}
	for i, a := range base {
		for k, b := range base {
			want := "id"
			if i != k {
				want = "<" + letters[i:i+1] + ":2>"
			}
			holdMakings(t, []making{{a, b, want}})
		}
		own := letters[i : i+1]
		holdMakings(t, []making{
			{a, "any", "id"}, {"any", a, "<" + strings.Replace(letters, own, "", 1) + ":2>"},
			{a, "{}", "<" + own + ":2>"}, {"{}", a, "<r:2>"}, {a, "int -> int", "<" + own + ":2>"}, {"int -> int", a, "<f:2>"}, {a, "{a: int}", "<" + own + ":2>"}, {"{a: int -> int}", a, "<r:2>"},
		})
	}
	holdMakings(t, []making{
		{"any", "any", "id"},
		{"int", "int | null", "id"}, {"int | null", "int", "<n:2>"}, {"int | str", "int", "<s:2>"}, {"int | str", "null | bool", "<is:2>"}, {"null | bool | int", "bool | str", "<ni:2>"},
		{"null | bool | int | str", "any", "id"}, {"any", "null | bool | int | str", "<rf:2>"}, {"any", "bool | str", "<nirf:2>"}, {"null | str", "null | str", "id"}, {"str | null", "any", "id"},
		{"null | {} | (any -> any)", "null", "<rf:2>"}, {"null | {} | (any -> any)", "{}", "<nf:2>"}, {"null | {} | (any -> any)", "any -> any", "<nr:2>"},
		{"{}", "any -> any", "<r:2>"}, {"any -> any", "{}", "<f:2>"}, {"{a: int}", "int -> int", "<r:2>"}, {"int -> int", "{a: int}", "<f:2>"},
		{"ALL", "ALL", "id"}, {"ALL", "any", "id"}, {"any", "ALL", "id"}, {"ALL", "int", "<nbsrf:2>"}, {"int", "ALL", "id"},
	})
}

// P10.2: functions; the label turns at what they take, also within one another.
func TestMakeOfFunctions(t *testing.T) {
	holdMakings(t, []making{
		{"int -> int", "int -> int", "id"}, {"any -> any", "any -> any", "id"}, {"any -> any", "any", "id"}, {"any", "any -> any", "<nbisr:2>"},
		// What they take, what they answer, both:
		{"int -> int", "str -> int", "<(<s:3> ~ id)>"}, {"int -> int", "any -> int", "<(<nbsrf:3> ~ id)>"}, {"any -> int", "int -> int", "id"}, {"int -> int", "int | null -> int", "<(<n:3> ~ id)>"}, {"int | null -> int", "int -> int", "id"},
		{"int -> int", "int -> str", "<(id ~ <i:2>)>"}, {"int -> int", "int -> any", "id"}, {"int -> any", "int -> int", "<(id ~ <nbsrf:2>)>"}, {"int -> int | null", "int -> int", "<(id ~ <n:2>)>"},
		{"int -> int", "str -> str", "<(<s:3> ~ <i:2>)>"}, {"int -> any", "any -> int", "<(<nbsrf:3> ~ <nbsrf:2>)>"}, {"any -> int", "int -> any", "id"}, {"null -> bool", "int -> str", "<(<i:3> ~ <b:2>)>"},
		// any's is from any to any:
		{"int -> int", "any", "<(<nbsrf:3> ~ id)>"}, {"any", "int -> int", "<nbisr:2 (id ~ <nbsrf:2>)>"}, {"any -> int", "any", "id"}, {"any", "any -> int", "<nbisr:2 (id ~ <nbsrf:2>)>"},
		{"int -> any", "any", "<(<nbsrf:3> ~ id)>"}, {"any", "int -> any", "<nbisr:2>"}, {"any", "null | (int -> str)", "<bisr:2 (id ~ <nbirf:2>)>"}, {"null | (int -> str)", "any", "<(<nbsrf:3> ~ id)>"},
		// Functions that take functions, and those that answer them:
		{"(int -> int) -> int", "(int -> str) -> int", "<(<(id ~ <s:3>)> ~ id)>"}, {"(int -> int) -> int", "(str -> int) -> int", "<(<(<i:2> ~ id)> ~ id)>"},
		{"(int -> int) -> int", "any", "<(<nbisr:3 (id ~ <nbsrf:3>)> ~ id)>"}, {"any", "(int -> int) -> int", "<nbisr:2 (<(<nbsrf:2> ~ id)> ~ <nbsrf:2>)>"},
		{"int -> int -> int", "int -> str -> str", "<(id ~ <(<s:3> ~ <i:2>)>)>"}, {"int -> int -> int", "any", "<(<nbsrf:3> ~ <(<nbsrf:3> ~ id)>)>"}, {"any", "int -> int -> int", "<nbisr:2 (id ~ <nbisr:2 (id ~ <nbsrf:2>)>)>"},
		{"((int -> int) -> int) -> int", "((str -> int) -> int) -> int", "<(<(<(<s:3> ~ id)> ~ id)> ~ id)>"}, {"((int -> int) -> int) -> int", "((int -> str) -> int) -> int", "<(<(<(id ~ <i:2>)> ~ id)> ~ id)>"},
		{"(((int -> int) -> int) -> int) -> int", "(((str -> int) -> int) -> int) -> int", "<(<(<(<(<i:2> ~ id)> ~ id)> ~ id)> ~ id)>"},
		{"(int -> int) -> int -> int", "(str -> str) -> str -> str", "<(<(<i:2> ~ <s:3>)> ~ <(<s:3> ~ <i:2>)>)>"},
		{"{a: int} -> {a: int}", "{a: str} -> {a: str}", "<(<a=<s:3>> ~ <a=<i:2>>)>"}, {"{a: int} -> {}", "{} -> {a: int}", "<(<a!3> ~ <a!2>)>"}, {"{} -> {a: int}", "{a: int} -> {}", "id"},
		{"null | (int -> int)", "str | (str -> int)", "<n:2 (<s:3> ~ id)>"}, {"int -> int", "null | (int -> str)", "<(id ~ <i:2>)>"},
		{"int | (int -> int)", "int | {a: int}", "<f:2>"}, {"{a: int} | (int -> int)", "{a: str} | (int -> str)", "<a=<i:2> (id ~ <i:2>)>"},
	})
}

// P10.2: records, neither of them open: names that one of them lacks, fields that come to Id.
func TestMakeOfRecords(t *testing.T) {
	holdMakings(t, []making{
		{"{}", "{}", "id"}, {"{a: int}", "{}", "id"}, {"{a: int -> int, b: any}", "{}", "id"}, {"{}", "{a: int}", "<a!2>"}, {"{}", "{a: any}", "<a!2>"}, {"{}", "{a: int -> int, b: any, c: {d: int}}", "<a!2 b!2 c!2>"},
		{"{a: int}", "{a: int}", "id"}, {"{a: int}", "{a: str}", "<a=<i:2>>"}, {"{a: int}", "{a: any}", "id"}, {"{a: any}", "{a: int}", "<a=<nbsrf:2>>"}, {"{a: any}", "{a: any}", "id"}, {"{a: any}", "{a: ALL}", "id"},
		{"{a: int}", "{b: int}", "<b!2>"}, {"{b: int}", "{a: str, b: str}", "<a!2 b=<i:2>>"}, {"{a: int}", "{a: str, b: str}", "<b!2 a=<i:2>>"}, {"{a: int, b: int}", "{b: str, c: str}", "<c!2 b=<i:2>>"},
		{"{a: int, b: int, c: int}", "{a: str, b: int, c: str}", "<a=<i:2> c=<i:2>>"}, {"{a: int, b: int, c: int}", "{a: int, b: str, c: int}", "<b=<i:2>>"}, {"{a: int, b: int, c: int}", "{b: str}", "<b=<i:2>>"},
		{"{b: int, d: int, f: int}", "{a: str, b: str, c: str, d: int, e: str, f: str, g: any}", "<a!2 c!2 e!2 g!2 b=<i:2> f=<i:2>>"},
		{"{Z: int, a: int, a0: int, aa: int}", "{Z: str, _: str, a: str, a0: str, aa: str}", "<_!2 Z=<i:2> a=<i:2> a0=<i:2> aa=<i:2>>"},
		// Fields that are records, functions and unions:
		{"{a: {b: int}}", "{a: {b: str, c: int}}", "<a=<c!2 b=<i:2>>>"}, {"{a: {b: int}}", "{a: {}}", "id"}, {"{a: {}}", "{a: {b: int}, b: {}}", "<b!2 a=<b!2>>"}, {"{a: int -> int}", "{a: str -> str}", "<a=<(<s:3> ~ <i:2>)>>"},
		{"{a: int | null}", "{a: int}", "<a=<n:2>>"}, {"{a: int}", "{a: int | null}", "id"}, {"{a: int -> int}", "{a: any}", "<a=<(<nbsrf:3> ~ id)>>"}, {"{a: {b: {c: any}}}", "{a: {b: {c: int}}}", "<a=<b=<c=<nbsrf:2>>>>"},
		{"null | {a: int}", "null | {a: str}", "<a=<i:2>>"}, {"null | {a: int}", "str | {a: str, b: int}", "<n:2 b!2 a=<i:2>>"}, {"{a: int}", "null | {a: str}", "<a=<i:2>>"}, {"null | {a: int}", "str", "<nr:2>"},
	})
}

// P10.2: records, one of them open.
func TestMakeOfOpenRecords(t *testing.T) {
	holdMakings(t, []making{
		{"{}", "any", "id"}, {"{a: int, b: {c: any}}", "any", "id"}, {"{a: any}", "any", "id"}, {"{a: int -> int}", "any", "<a=<(<nbsrf:3> ~ id)>>"}, {"{a: any -> any, b: int -> any, c: int}", "any", "<b=<(<nbsrf:3> ~ id)>>"},
		{"{a: {b: int -> int, c: int}}", "any", "<a=<b=<(<nbsrf:3> ~ id)>>>"}, {"{a: {} -> int, b: {c: any} -> int}", "any", "<a=<(<nbisf:3> ~ id)> b=<(<nbisf:3 c!3> ~ id)>>"},
		{"{a: null | (int -> int)}", "any", "<a=<(<nbsrf:3> ~ id)>>"}, {"null | {a: int -> int}", "any", "<a=<(<nbsrf:3> ~ id)>>"},
		{"any", "{}", "<nbisf:2>"}, {"any", "{a: any}", "<nbisf:2 a!2>"}, {"any", "{a: int}", "<nbisf:2 a!2 a=<nbsrf:2>>"}, {"any", "{a: any, b: int, c: ALL, d: str}", "<nbisf:2 a!2 b!2 c!2 d!2 b=<nbsrf:2> d=<nbirf:2>>"},
		{"any", "{a: {b: int}}", "<nbisf:2 a!2 a=<nbisf:2 b!2 b=<nbsrf:2>>>"}, {"any", "{a: int -> int}", "<nbisf:2 a!2 a=<nbisr:2 (id ~ <nbsrf:2>)>>"}, {"any", "{a: (int -> int) -> any}", "<nbisf:2 a!2 a=<nbisr:2 (<(<nbsrf:2> ~ id)> ~ id)>>"},
		{"any", "null | {a: int}", "<bisf:2 a!2 a=<nbsrf:2>>"}, {"any", "{a: int} | (int -> int)", "<nbis:2 a!2 a=<nbsrf:2> (id ~ <nbsrf:2>)>"}, {"any", "null | bool | int | str | {a: any} | (any -> any)", "<a!2>"},
		{"any", "null | bool | int | str | {Z: any, a: int} | (int -> any)", "<Z!2 a!2 a=<nbsrf:2>>"},
		// Within functions: what is taken is the other way round.
		{"any -> any", "{a: int} -> {a: int}", "<(id ~ <nbisf:2 a!2 a=<nbsrf:2>>)>"}, {"{a: int} -> {a: int}", "any -> any", "<(<nbisf:3 a!3 a=<nbsrf:3>> ~ id)>"}, {"any -> int", "{a: int -> int} -> int", "<(<a=<(<nbsrf:2> ~ id)>> ~ id)>"},
	})
}

var wrongLabels = []int{0, 1}

// P10.2: labels 0 and 1, of which one is q where the other is the label.
func TestMakeOfWrongLabels(t *testing.T) {
	list := []string{"any", "int", "str", "ALL", "{}", "{a: int}", "int -> int", "null | int"}
	for _, a := range list {
		for _, b := range list {
			for _, label := range wrongLabels {
				holdMake(t, typ(a), typ(b), label, api.Co{})
			}
			for _, label := range []int{2, 3, -1, -2, -3, 1 << 32, 1<<32 + 1} {
				if !May(Make(typ(a), typ(b), label)) {
					t.Errorf("Make(%s, %s, %d) is not normal", a, b, label)
				}
			}
		}
	}
}

func fields(n int) api.Type {
	r := record("")
	for i := range n {
		r.Names = append(r.Names, fmt.Sprintf("f%02d", i))
		r.Kids = append(r.Kids, intType)
	}
	return r
}

// wrongTypes has one for each line of chapter 3's section Words.
func wrongTypes() []api.Type {
	named := func(t api.Type) api.Type { t.Name = "x"; return t }
	withNames := func(t api.Type) api.Type { t.Names = []string{"x", "y"}; return t }
	list := []api.Type{variable, leaf(api.TVar), leaf(-1), leaf(9), leaf(1 << 40), leaf(-1 << 63), node(9, intType)}
	for kind := api.TAny; kind <= api.TStr; kind++ {
		list = append(list, named(leaf(kind)), withNames(leaf(kind)), node(kind, intType), node(kind, anyType, anyType))
	}
	for _, name := range []string{"1a", "", "a-b", "é", "let", "record", "any", strings.Repeat("n", 33)} {
		list = append(list, api.Type{Kind: api.TRec, Names: []string{name}, Kids: []api.Type{intType}})
	}
	return append(list,
		named(record("")), named(record("a", intType)), record("a"), record("", intType), record("a b", intType), record("a", intType, intType),
		record("b a", intType, intType), record("a a", intType, intType), record("a c b", intType, intType, intType), fields(17), fields(40),
		leaf(api.TFun), node(api.TFun, intType), node(api.TFun, intType, intType, intType), named(function(intType, intType)), withNames(function(intType, intType)),
		leaf(api.TUnion), union(intType), union(record("")), union(intType, nullType), union(intType, intType), union(nullType, intType, intType),
		union(anyType, intType), union(intType, anyType), union(anyType), union(union(nullType, intType), strType), union(nullType, union(intType, strType)),
		union(nullType, variable), union(variable, intType), union(nullType, leaf(-1)), union(nullType, leaf(9)), union(record("a", intType), record("b", intType)),
		union(function(intType, intType), record("")), named(union(nullType, intType)), withNames(union(nullType, intType)), node(api.TUnion, leaf(api.TUnion), leaf(api.TUnion)),
	)
}

// aroundType is ways in which a type stands within another one; all that is around it is normal.
func aroundType(t api.Type) []api.Type {
	return []api.Type{
		record("a", t), record("a b", intType, t), function(t, intType), function(intType, t), record("a", record("b", t)), function(function(t, anyType), anyType),
		union(nullType, record("a", t)), union(nullType, function(intType, t)), chain(16, t), chain(17, t), chain(40, t), functions(40, t), wide(15, t), wide(16, record("a", t)),
	}
}

// P10.2: nothing, if a type is not normal, whatever the other one is.
func TestMakeOfWrongTypes(t *testing.T) {
	good := []api.Type{anyType, nullType, intType, record(""), typ("{a: int}"), typ("int -> int"), typ("any -> any"), typ("null | int"), typ("ALL"), chain(17, intType)}
	anys := aroundType(anyType)
	for _, bad := range wrongTypes() {
		for _, label := range []int{2, 3, 0, 1, -1} {
			for _, g := range append(good, bad) {
				holdMake(t, bad, g, label, api.Co{})
				holdMake(t, g, bad, label, api.Co{})
			}
			for i, b := range aroundType(bad) {
				for _, g := range []api.Type{anyType, intType, anys[i], b} {
					holdMake(t, b, g, label, api.Co{})
					holdMake(t, g, b, label, api.Co{})
				}
			}
		}
	}
	for _, t1 := range anys {
		if !May(Make(t1, anyType, 2)) {
			t.Errorf("Make(%s, any, 2) is not normal", short(t1))
		}
	}
}

// P10.2: a wrong type where the other one has nothing for it.
func TestMakeOfWrongTypesThatPlayNoPart(t *testing.T) {
	bad := record("b a", intType, intType)
	for _, c := range [][2]api.Type{
		{record("a", bad), record("")}, {record("a", bad), intType}, {intType, function(bad, bad)}, {record(""), record("a", bad)}, {union(nullType, record("a", bad)), nullType}, {function(bad, intType), record("")},
	} {
		holdMake(t, c[0], c[1], 2, api.Co{})
		holdMake(t, c[1], c[0], 2, api.Co{})
	}
}
