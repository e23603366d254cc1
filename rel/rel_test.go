package rel

import (
	"fmt"
	"strings"
	"testing"

	"gradus/api"
	"gradus/parse"
	"gradus/types"
)

func leaf(kind int) api.Type { return api.Type{Kind: kind} }

func node(kind int, kids ...api.Type) api.Type { return api.Type{Kind: kind, Kids: kids} }

func function(takes, answers api.Type) api.Type { return node(api.TFun, takes, answers) }

func union(kids ...api.Type) api.Type { return node(api.TUnion, kids...) }

func record(names string, kids ...api.Type) api.Type {
	return api.Type{Kind: api.TRec, Names: strings.Fields(names), Kids: kids}
}

var (
	anyType  = leaf(api.TAny)
	nullType = leaf(api.TNull)
	intType  = leaf(api.TInt)
	strType  = leaf(api.TStr)
	variable = api.Type{Kind: api.TVar, Name: "A"}
)

// allParts is what ALL stands for in the texts of types.
const allParts = "(null | bool | int | str | {} | (any -> any))"

// typ is the normal type of a text.
func typ(s string) api.Type {
	w, d := parse.Type(strings.ReplaceAll(s, "ALL", allParts))
	n, e := types.Norm(w)
	if d.E != api.OK || e != api.OK {
		panic(fmt.Sprint(s, d, e))
	}
	return n
}

// text tells all of a type, so that two are the same if their texts are.
func text(t api.Type) string {
	kids := make([]string, len(t.Kids))
	for i, kid := range t.Kids {
		kids[i] = text(kid)
	}
	return fmt.Sprintf("<%d %q %d%q %s>", t.Kind, t.Name, len(t.Names), t.Names, strings.Join(kids, " "))
}

// short is for what tests tell.
func short(t api.Type) string {
	if s := types.Show(t); s != "" {
		return s
	}
	s := text(t)
	return s[:min(len(s), 300)]
}

func copyAll(t api.Type) api.Type {
	c := api.Type{Kind: t.Kind, Name: t.Name}
	if t.Names != nil {
		c.Names = append([]string{}, t.Names...)
	}
	if t.Kids != nil {
		c.Kids = []api.Type{}
	}
	for _, kid := range t.Kids {
		c.Kids = append(c.Kids, copyAll(kid))
	}
	return c
}

// stands is the words of all relations that hold.
func stands(a, b api.Type) string {
	var words []string
	for _, r := range []struct {
		word string
		is   bool
	}{{"sub", Sub(a, b)}, {"fits", Fits(a, b)}, {"naive", Naive(a, b)}, {"pos", Pos(a, b)}, {"neg", Neg(a, b)}} {
		if r.is {
			words = append(words, r.word)
		}
	}
	return strings.Join(words, " ")
}

const (
	inAll   = "sub fits naive pos neg"
	loosens = "fits naive pos neg"
	inNone  = ""
)

type standing struct{ a, b, words string }

func holdStandings(t *testing.T, list []standing) {
	t.Helper()
	for _, c := range list {
		if got := stands(typ(c.a), typ(c.b)); got != c.words {
			t.Errorf("%s, %s: %q, not %q", c.a, c.b, got, c.words)
		}
	}
}

// P6.1 to P6.5: the chapter's examples.
func TestExamples(t *testing.T) {
	holdStandings(t, []standing{
		{"{a: int, b: str}", "{a: int}", "sub fits pos neg"},
		{"any", "int", "fits neg"},
		{"int -> int", "any", "fits naive pos"},
	})
}

// P6.1 to P6.5
func TestBaseTypes(t *testing.T) {
	base := []string{"null", "bool", "int", "str"}
	for i, a := range base {
		for k, b := range base {
			words := "neg"
			if i == k {
				words = inAll
			}
			holdStandings(t, []standing{{a, b, words}})
		}
		holdStandings(t, []standing{
			{a, a, inAll}, {a, "any", loosens}, {"any", a, "fits neg"},
			{a, "{}", "neg"}, {"{}", a, "neg"}, {a, "int -> int", "neg"}, {"int -> int", a, "neg"},
		})
	}
	holdStandings(t, []standing{{"any", "any", inAll}, {"{}", "any -> any", "neg"}, {"any -> any", "{}", "neg"}})
}

// P6.1 to P6.5
func TestRecords(t *testing.T) {
	holdStandings(t, []standing{
		{"{}", "{}", inAll},
		{"{a: int}", "{a: int}", inAll},
		{"{a: int, b: str, c: {}}", "{a: int, b: str, c: {}}", inAll},
		// Fewer names, more, others:
		{"{a: int}", "{}", "sub fits pos neg"},
		{"{}", "{a: int}", "neg"},
		{"{a: int, b: str}", "{b: str}", "sub fits pos neg"},
		{"{a: int, b: str, c: null}", "{a: int, c: null}", "sub fits pos neg"},
		{"{a: int, c: null}", "{a: int, b: str, c: null}", "neg"},
		{"{a: int}", "{b: int}", "neg"},
		{"{a: int, b: int}", "{b: int, c: int}", "neg"},
		// The same names, and Kids that are not the same:
		{"{a: int}", "{a: str}", "neg"},
		{"{a: int, b: int}", "{a: int, b: str}", "neg"},
		{"{a: int, b: int}", "{a: str, b: int}", "neg"},
		{"{a: int, b: str}", "{a: str, b: int}", "neg"},
		{"{a: int}", "{a: any}", loosens},
		{"{a: any}", "{a: int}", "fits neg"},
		{"{a: any}", "{a: any}", inAll},
		{"{a: any, b: int}", "{a: any, b: any}", loosens},
		{"{a: int, b: any}", "{a: any, b: int}", "fits neg"},
		{"{a: int, b: str}", "{a: any}", "fits pos neg"},
		{"{a: any, b: str}", "{a: int}", "fits neg"},
		{"{a: str, b: any}", "{a: int}", "neg"},
		{"{a: int}", "{a: any, b: any}", "neg"},
		{"{a: int}", "{a: int | null}", "sub fits pos neg"},
		{"{a: int | null}", "{a: int}", "neg"},
		{"{a: int, b: int | null}", "{a: int | null, b: int}", "neg"},
		{"{a: {a: int, b: int}}", "{a: {b: int}}", "sub fits pos neg"},
		{"{a: {b: int}}", "{a: {a: int, b: int}}", "neg"},
		{"{a: {b: int}}", "{a: {b: any}}", loosens},
		{"{a: {b: int}}", "{a: any}", loosens},
		// A name that just one has plays no part in Neg, one that both have does:
		{"{a: int -> int, b: int}", "{b: int}", "sub fits pos neg"},
		{"{a: int -> int, b: int}", "{a: any -> int, b: int}", "fits naive pos"},
		{"{a: int -> int}", "{a: any -> int, b: int}", inNone},
		{"{b: int -> int}", "{a: any -> int, b: int}", "neg"},
		{"{a: int -> int, b: int -> int}", "{a: int -> int, b: any -> int}", "fits naive pos"},
		{"{a: int -> int, b: int -> int}", "{a: any -> int, b: int -> int}", "fits naive pos"},
	})
}

// P6.1 to P6.5: what they take and what they answer, each by itself.
func TestFunctions(t *testing.T) {
	holdStandings(t, []standing{
		{"int -> int", "int -> int", inAll},
		{"any -> any", "any -> any", inAll},
		// What they take:
		{"int -> int", "str -> int", "pos"},
		{"int -> int", "any -> int", "fits naive pos"},
		{"any -> int", "int -> int", "fits pos neg"},
		{"int | null -> int", "int -> int", "sub fits pos neg"},
		{"int -> int", "int | null -> int", "pos"},
		{"{a: int} -> int", "{a: int, b: int} -> int", "sub fits pos neg"},
		{"{a: int, b: int} -> int", "{a: int} -> int", "pos"},
		{"{a: int} -> int", "{a: any} -> int", "fits naive pos"},
		{"{a: any} -> int", "{a: int} -> int", "fits pos neg"},
		// What they answer:
		{"int -> int", "int -> str", "neg"},
		{"int -> int", "int -> any", loosens},
		{"int -> any", "int -> int", "fits neg"},
		{"int -> int", "int -> int | null", "sub fits pos neg"},
		{"int -> int | null", "int -> int", "neg"},
		{"int -> {a: int, b: int}", "int -> {a: int}", "sub fits pos neg"},
		{"int -> {a: int}", "int -> {a: int, b: int}", "neg"},
		// Both:
		{"any -> int", "int -> any", "fits pos neg"},
		{"int -> any", "any -> int", "fits"},
		{"int -> int", "any -> any", "fits naive pos"},
		{"any -> any", "int -> int", "fits neg"},
		{"int -> int", "str -> str", inNone},
		{"int | null -> int", "int -> int | null", "sub fits pos neg"},
		{"int -> int | null", "int | null -> int", inNone},
		// Functions that take and answer functions:
		{"(int -> int) -> int", "(any -> int) -> int", loosens},
		{"(any -> int) -> int", "(int -> int) -> int", "fits neg"},
		{"(int -> int) -> int", "(int -> any) -> int", "fits naive pos"},
		{"(int -> any) -> int", "(int -> int) -> int", "fits pos neg"},
		{"(int -> int) -> int", "(int | null -> int) -> int", "sub fits pos neg"},
		{"(int | null -> int) -> int", "(int -> int) -> int", "neg"},
		{"int -> int -> int", "int -> any -> int", "fits naive pos"},
		{"int -> any -> int", "int -> int -> int", "fits pos neg"},
		{"int -> int -> int", "int -> int -> any", loosens},
		{"int -> int -> any", "int -> int -> int", "fits neg"},
		{"((int -> int) -> int) -> int", "((any -> int) -> int) -> int", "fits naive pos"},
	})
}

// P6.1 to P6.5: a part that the other has, that it has not, and parts of one tag that differ.
func TestUnions(t *testing.T) {
	holdStandings(t, []standing{
		{"null | int", "null | int", inAll},
		{"ALL", "ALL", inAll},
		{"int", "int | null", "sub fits pos neg"},
		{"int | null", "int", "neg"},
		{"int | str", "int", "neg"},
		{"int | str", "str | null", "neg"},
		{"int | str", "null | bool", "neg"},
		{"int", "null | bool", "neg"},
		{"null | bool", "int", "neg"},
		{"int | str", "null | int | str", "sub fits pos neg"},
		{"null | int | str", "int | str", "neg"},
		{"null | int", "null | str", "neg"},
		{"null | int", "any", loosens},
		{"any", "null | int", "fits neg"},
		{"{a: int}", "null | {a: int}", "sub fits pos neg"},
		{"{a: int, b: int}", "null | {a: int}", "sub fits pos neg"},
		{"null | {a: int, b: int}", "null | {a: int}", "sub fits pos neg"},
		{"null | {a: int}", "null | {a: int, b: int}", "neg"},
		{"null | {a: int}", "null | {a: str}", "neg"},
		{"null | {a: int}", "null | {a: any}", loosens},
		{"null | {a: any}", "null | {a: int}", "fits neg"},
		{"null | {a: int}", "{a: any}", "neg"},
		{"{a: int}", "null | {a: any}", "fits pos neg"},
		{"null | (int -> int)", "null | (any -> int)", "fits naive pos"},
		{"int | (int -> int)", "null | (any -> int)", inNone},
		{"int | (int -> int)", "int | {a: any -> int}", "neg"},
		{"{a: int} | (int -> int)", "{a: any} | (int -> any)", loosens},
		{"{a: int} | (int -> int)", "{a: str} | (int -> any)", "neg"},
		{"{a: int} | (int -> int)", "{a: int} | (str -> int)", "pos"},
		{"{a: int} | (int -> int)", "{a: str} | (str -> int)", inNone},
		{"null | (int -> int)", "any", "fits naive pos"},
		{"any", "null | (int -> int)", "fits neg"},
		{"{a: null | int} -> int", "{a: int} -> int", "sub fits pos neg"},
		{"{a: null | int} -> int", "{a: null | (any -> any)} -> int", "pos"},
	})
}

// P6.4, P6.5: any's six parts, the open record among them, on either side.
func TestPartsOfAny(t *testing.T) {
	holdStandings(t, []standing{
		{"any", "ALL", "fits pos neg"},
		{"ALL", "any", loosens},
		// any has all six, and so must what it is Pos of:
		{"any", "bool | int | str | {} | (any -> any)", "fits neg"},
		{"any", "null | int | str | {} | (any -> any)", "fits neg"},
		{"any", "null | bool | str | {} | (any -> any)", "fits neg"},
		{"any", "null | bool | int | {} | (any -> any)", "fits neg"},
		{"any", "null | bool | int | str | (any -> any)", "fits neg"},
		{"any", "null | bool | int | str | {}", "fits neg"},
		// An open record has no name:
		{"any", "null | bool | int | str | {a: any} | (any -> any)", "fits neg"},
		{"any", "{}", "fits neg"},
		{"any", "{a: int, b: int -> int}", "fits neg"},
		{"any", "{a: (int -> int) -> any -> int}", "fits neg"},
		// Fields of what is taken as an open record:
		{"{}", "any", loosens},
		{"{a: int, b: {c: any}}", "any", loosens},
		{"{a: any -> int}", "any", loosens},
		{"{a: int -> int}", "any", "fits naive pos"},
		{"{a: any, b: int -> int}", "any", "fits naive pos"},
		{"{a: int -> int, b: any}", "any", "fits naive pos"},
		{"{a: {b: null | (int -> int)}}", "any", "fits naive pos"},
		{"{a: ALL -> int}", "any", loosens},
		// Its function is from any to any:
		{"any", "any -> any", "fits neg"},
		{"any -> any", "any", loosens},
		{"any -> int", "any", loosens},
		{"int -> any", "any", "fits naive pos"},
		{"int -> int", "any", "fits naive pos"},
		{"ALL -> int", "any", loosens},
		{"null -> any", "any", "fits naive pos"},
		{"any -> any -> int", "any", loosens},
		{"any -> int -> int", "any", "fits naive pos"},
		{"(int -> int) -> int", "any", "fits naive pos"},
		{"any", "null | bool | int | str | {} | (int -> any)", "fits pos neg"},
		{"any", "null | bool | int | str | {} | (any -> int)", "fits neg"},
		{"any", "null | bool | int | str | {} | ((any -> int) -> any)", "fits pos neg"},
		{"any", "null | bool | int | str | {} | ((int -> int) -> any)", "fits neg"},
		{"any", "null | bool | int | str | {} | (any -> ALL)", "fits pos neg"},
		{"any", "null | bool | int | str | {} | (any -> null | int)", "fits neg"},
		// Within others:
		{"{a: any}", "{a: ALL}", "fits pos neg"},
		{"{a: ALL}", "{a: any}", loosens},
		{"ALL -> int", "any -> int", loosens},
		{"any -> int", "ALL -> int", "fits pos neg"},
		{"int -> any", "int -> ALL", "fits pos neg"},
		{"null | {a: any}", "null | {a: {b: any}}", "fits neg"},
		{"{a: any} -> int", "any -> int", "fits naive pos"},
		{"any -> int", "{a: any} -> int", "fits pos neg"},
	})
}

func holdJoin(t *testing.T, a, b, want api.Type) {
	t.Helper()
	if got := Join(a, b); !types.Same(got, want) {
		t.Errorf("Join(%s, %s) = %s, not %s", short(a), short(b), short(got), short(want))
	}
}

// P6.6
func TestJoin(t *testing.T) {
	for _, c := range []struct{ a, b, want string }{
		// One is Sub of the other:
		{"int", "int", "int"}, {"any", "any", "any"}, {"{}", "{}", "{}"}, {"int -> any", "int -> any", "int -> any"},
		{"int", "int | null", "null | int"}, {"int | null", "int", "null | int"},
		{"{a: int, b: str}", "{a: int}", "{a: int}"}, {"{a: int}", "{a: int, b: str}", "{a: int}"},
		{"{a: int}", "{}", "{}"}, {"{}", "{a: any}", "{}"},
		{"int -> int", "int | null -> int", "int -> int"}, {"int | null -> int", "int -> int", "int -> int"},
		{"int -> null | int", "int -> int", "int -> null | int"},
		{"null | {a: int, b: int}", "null | int | {a: int}", "null | int | {a: int}"},
		// any, and another type:
		{"any", "int", "any"}, {"int", "any", "any"}, {"any", "ALL", "any"}, {"ALL", "any", "any"}, {"{a: any}", "any", "any"},
		// Just one has the tag:
		{"int", "null", "null | int"}, {"null", "int", "null | int"},
		{"int | str", "null | bool", "null | bool | int | str"},
		{"any -> any", "{a: any}", "{a: any} | (any -> any)"},
		{"null | str", "bool | {} | (int -> int)", "null | bool | str | {} | (int -> int)"},
		{"null | bool | int", "str | {a: int} | (int -> int)", "null | bool | int | str | {a: int} | (int -> int)"},
		// Both have it, and one is Sub of the other:
		{"null | int", "int | str", "null | int | str"},
		{"null | {a: int}", "int | {a: int, b: int}", "null | int | {a: int}"},
		{"int | {a: int, b: int}", "null | {a: int}", "null | int | {a: int}"},
		{"null | {a: int}", "int | {a: int}", "null | int | {a: int}"},
		{"null | {a: int}", "{a: int, b: int}", "null | {a: int}"},
		{"null | {a: int, b: int}", "{a: int}", "null | {a: int}"},
		{"{a: int}", "null | {a: int, b: int}", "null | {a: int}"},
		{"null | (int -> int)", "int | (null | int -> int)", "null | int | (int -> int)"},
		{"int | (null | int -> int)", "null | (int -> int)", "null | int | (int -> int)"},
		{"{a: int} | (null | int -> int)", "{a: int, b: int} | (int -> int)", "{a: int} | (int -> int)"},
		{"{a: int, b: int} | (int -> int)", "{a: int} | (null | int -> int)", "{a: int} | (int -> int)"},
		{"null | {a: any}", "int | {a: any, b: any}", "null | int | {a: any}"},
		// Both have it, and neither is:
		{"{a: int}", "{b: int}", "any"}, {"{a: int}", "{a: str}", "any"}, {"{a: int}", "{a: any}", "any"}, {"{a: any}", "{a: int}", "any"},
		{"int -> int", "str -> int", "any"}, {"int -> int", "int -> any", "any"}, {"any -> int", "int -> int", "any"},
		{"null | {a: int}", "{a: str}", "any"}, {"null | {a: int}", "int | {b: int}", "any"}, {"int | (int -> int)", "null | (int -> str)", "any"},
		{"{a: int} | (int -> int)", "{a: int} | (int -> str)", "any"}, {"{a: int} | (int -> int)", "{a: str} | (int -> int)", "any"},
		{"null | (any -> int)", "int | (int -> int)", "any"},
		// Fields are not joined:
		{"{a: int}", "{a: null}", "any"}, {"{a: int | null}", "{a: null}", "{a: null | int}"}, {"int -> int", "int -> null", "any"},
	} {
		holdJoin(t, typ(c.a), typ(c.b), typ(c.want))
	}
}

func holdNarrow(t *testing.T, in api.Type, tag int, with, without api.Type) {
	t.Helper()
	a, b := Narrow(in, tag)
	if !types.Same(a, with) || !types.Same(b, without) {
		t.Errorf("Narrow(%s, %d) = %s, %s, not %s, %s", short(in), tag, short(a), short(b), short(with), short(without))
	}
}

var noTags = []int{-1, -2, api.Tags, api.Tags + 1, 1 << 40, 1<<63 - 1, -1 << 63}

// P6.7
func TestNarrow(t *testing.T) {
	null, boolean, integer, str, rec, fun := api.TagNull, api.TagBool, api.TagInt, api.TagStr, api.TagRec, api.TagFun
	for _, c := range []struct {
		in            string
		tag           int
		with, without string
	}{
		{"any", null, "null", "any"}, {"any", boolean, "bool", "any"}, {"any", integer, "int", "any"},
		{"any", str, "str", "any"}, {"any", rec, "{}", "any"}, {"any", fun, "any", "any"},
		// Of two:
		{"null | int", null, "null", "int"}, {"null | int", integer, "int", "null"}, {"null | int", str, "null | int", "null | int"},
		{"bool | str", boolean, "bool", "str"}, {"bool | str", str, "str", "bool"}, {"bool | str", fun, "bool | str", "bool | str"},
		{"{a: any} | (int -> any)", rec, "{a: any}", "int -> any"}, {"{a: any} | (int -> any)", fun, "int -> any", "{a: any}"},
		{"{a: any} | (int -> any)", null, "{a: any} | (int -> any)", "{a: any} | (int -> any)"},
		// Of more:
		{"null | int | str", null, "null", "int | str"}, {"null | int | str", integer, "int", "null | str"}, {"null | int | str", str, "str", "null | int"},
		{"null | int | str", boolean, "null | int | str", "null | int | str"}, {"null | int | str", rec, "null | int | str", "null | int | str"},
		{"ALL", null, "null", "bool | int | str | {} | (any -> any)"},
		{"ALL", boolean, "bool", "null | int | str | {} | (any -> any)"},
		{"ALL", integer, "int", "null | bool | str | {} | (any -> any)"},
		{"ALL", str, "str", "null | bool | int | {} | (any -> any)"},
		{"ALL", rec, "{}", "null | bool | int | str | (any -> any)"},
		{"ALL", fun, "any -> any", "null | bool | int | str | {}"},
		{"null | {a: null | int}", null, "null", "{a: null | int}"},
		{"null | {a: null | int}", integer, "null | {a: null | int}", "null | {a: null | int}"},
	} {
		holdNarrow(t, typ(c.in), c.tag, typ(c.with), typ(c.without))
	}
	alone := []string{"null", "bool", "int", "str", "{}", "{a: null | int}", "{a: any, b: {}}", "any -> any", "int -> null | int", "{} -> {}"}
	for _, s := range alone {
		for tag := range api.Tags {
			holdNarrow(t, typ(s), tag, typ(s), typ(s))
		}
	}
	for _, s := range append(alone, "any", "null | int", "null | int | str", "ALL") {
		for _, tag := range noTags {
			holdNarrow(t, typ(s), tag, typ(s), typ(s))
		}
	}
}
