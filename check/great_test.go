package check

import (
	"fmt"
	"strings"
	"testing"

	"gradus/api"
	"gradus/types"
)

// great is a record's type of that size, up to 257.
func great(size int) string {
	var l []string
	for left := size - 1; left > 0; left -= 16 {
		l = append(l, fmt.Sprintf("r%02d: {%s}", len(l), fields(min(left, 16)-1, "int")))
	}
	return "{" + strings.Join(l, ", ") + "}"
}

// high is a type of that height, of what is within n-1 records.
func high(n int) string {
	return strings.Repeat("{a: ", n-1) + "int" + strings.Repeat("}", n-1)
}

func TestGreatAndHigh(t *testing.T) {
	for n := 1; n <= 200; n++ {
		if got := types.Size(typ(great(n))); got != n {
			t.Error(n, got)
		}
	}
	for n := 1; n <= 16; n++ {
		if got := types.Height(typ(high(n))); got != n {
			t.Error(n, got)
		}
	}
}

// holdAccepted has a function t checked, of which nothing but that it is right is asked.
func holdAccepted(t *testing.T, takes, text string) {
	t.Helper()
	if _, d := Check(linked(t, framed(takes, text))); len(d) > 0 {
		t.Errorf("%s: %v", text, d)
	}
}

// P9.1: types that become too great or too high where they are made.
func TestTooGreat(t *testing.T) {
	type edge struct{ takes, fits, over string }
	for i, c := range []edge{
		// Records.
		{great(198), "{a: v, b: 1}", "@1{a: v, b: 1, c: 1}"},
		{great(198), "{a: {b: v}}", "@1{a: {b: {c: v}}}"},
		{great(190), "{a: v, b: {" + fields(8, "1") + "}}", "@1{a: v, b: {" + fields(9, "1") + "}}"},
		{high(15), "{a: v}", "@1{a: {a: v}}"},
		{high(15), "{b: {b: 1}, a: v}", "@1{b: 1, a: {b: v}}"},
		{"any", "{" + fields(16, "v") + "}", "@1{" + fields(17, "v") + "}"},
		// with.
		{great(198), "{{v with a: {}} with b: 1}", "@1{{{v with a: {}} with b: 1} with c: null}"},
		{great(198), "{v with r00: {" + fields(16, "{}") + "}}", "@1{v with r00: {b: {}, a: {" + fields(16, "{}") + "}}}"},
		{high(15), "{{} with a: v}", "@1{{} with a: {a: v}}"},
		{high(15), "{v with a: v}", "@1{v with a: {a: v}}"},
		{"{" + fields(15, "int") + "}", "{v with a: 1}", "@1{{v with a: 1} with b: 1}"},
		{"{" + fields(16, "int") + "}", "{v with f15: null}", "@1{v with f16: null}"},
		// fn: what it takes, what its body is, both.
		{"any", "fn (a: " + great(198) + ") => 1", "@1fn (a: " + great(199) + ") => 1"},
		{"any", "fn (a: " + great(198) + "): int => 1", "@1fn (a: " + great(199) + "): int => 1"},
		{"any", "fn (a): " + great(198) + " => a", "@1fn (a): " + great(199) + " => a"},
		{great(198), "fn (a: int) => v", "@1fn (a: {b: int}) => v"},
		{great(198), "fn (a: int) => v", "@1fn (a: int) => {b: v}"},
		{great(100), "fn (a: " + great(99) + ") => v", "@1fn (a: " + great(100) + ") => v"},
		{high(15), "fn (a) => v", "@1fn (a) => {b: v}"},
		{high(15), "fn (a) => v", "@1fn (a) => fn (b) => v"},
		{"any", "fn (a: " + high(15) + ") => 1", "@1fn (a: " + high(16) + ") => 1"},
		// Types that are written.
		{"any", "let a: " + great(200) + " = v; 1", "@1let a: " + great(201) + " = v; 1"},
		{"any", "let a: " + high(16) + " = v; 1", "@1let a: " + high(17) + " = v; 1"},
		{"any", "v as " + great(200), "v @1as " + great(201)},
		{"any", "(v as " + high(16) + ").a", "(v @1as " + high(17) + ").a"},
		// Instances: each of their types, and the function's.
		{"any", "id[" + great(99) + "]", "@1id[" + great(100) + "]"},
		{"any", "id[" + high(15) + "]", "@1id[" + high(16) + "]"},
		{"any", "id[" + high(15) + "]", "@1id[" + high(17) + "]"},
		{"any", "both[any, {a: any, b: " + high(14) + "}]", "@1both[any, {a: any, b: " + high(15) + "}]"},
	} {
		holdAccepted(t, c.takes, c.fits)
		l := framed(c.takes, c.over)
		if _, d := Check(linked(t, l)); len(d) != 1 {
			t.Error(i, d)
		}
		holdDiags(t, l, at('1', api.ErrType))
	}
}

// P9.1: the types of functions; who names one that has none is wrong too.
func TestFunctionsTooGreat(t *testing.T) {
	for _, c := range [][2]string{{great(198), great(199)}, {high(15), high(16)}} {
		text := func(takes string) []api.Source {
			return sources("main: @1fn f(x: " + takes + "): any = x;\nfn main(x) = @2f; fn g(x) = x;")
		}
		holdDiags(t, text(c[1]), at('1', api.ErrType), at('2', api.ErrType))
		if _, d := Check(linked(t, text(c[0]))); len(d) > 0 {
			t.Error(c[0], d)
		}
	}
	holdDiags(t, sources("main: @1fn f(x): "+great(199)+" = x; fn main(x) = x;"), at('1', api.ErrType))
	holdDiags(t, sources("main: @1fn f(x: "+great(100)+"): "+great(100)+" = x; fn main(x) = x;"), at('1', api.ErrType))
	holdDiags(t, sources("main: fn main(x) = x;\n @1fn f(x): "+high(16)+" = x;"), at('1', api.ErrType))
	// The main one's type is made ahead of ErrMain.
	holdDiags(t, sources("main: @1fn main(x: "+great(199)+") = x;"), at('1', api.ErrType))
	holdDiags(t, sources("main: @1fn main(x: "+great(198)+") = x;"), at('1', api.ErrMain))
}

// P9.1: branches whose union would be too great are of any.
func TestJoinTooGreat(t *testing.T) {
	is := typeText(typ(great(198)))
	union := typeText(typ("int | " + great(198)))
	holdRight(t,
		right{great(198), "if true then v else 1", "<0 " + union + " => any: (if true then v0 else 1)>", "1"},
		right{great(198), "if true then v else f", "(if true then <0 " + is + " => any: v0> else <1 int -> str => any: g1>)", "14 21"},
		right{high(15), "if true then v else 1", "<0 int | " + high(15) + " => any: (if true then v0 else 1)>", "1"},
		right{high(15), "if true then {a: v} else 1", "(if true then <0 " + high(16) + " => any: {a: v0}> else <1 int => any: 1>)", "14 26"},
	)
}
