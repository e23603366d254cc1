package check

import (
	"fmt"
	"testing"

	"gradus/api"
)

// P9.1: if, and the type of both its branches.
func TestIf(t *testing.T) {
	holdRight(t,
		right{"any", "if true then 1 else 2", "<0 int => any: (if true then 1 else 2)>", "1"},
		// One of both.
		right{"int | null", "if true then 1 else v", "<0 null | int => any: (if true then 1 else v0)>", "1"},
		right{"int | null", "if true then v else 1", "<0 null | int => any: (if true then v0 else 1)>", "1"},
		right{"{a: int}", "if true then v else {a: 1, b: 2}", "<0 {a: int} => any: (if true then v0 else {a: 1, b: 2})>", "1"},
		// A union.
		right{"any", "if true then 1 else null", "<0 null | int => any: (if true then 1 else null)>", "1"},
		right{"str | null", "if true then v else 1", "<0 null | int | str => any: (if true then v0 else 1)>", "1"},
		right{"{a: int} | null", "if true then v else {a: 1, b: 2}", "<0 null | {a: int} => any: (if true then v0 else {a: 1, b: 2})>", "1"},
		right{"{a: int} | null", `if true then "x" else v`, `<0 null | str | {a: int} => any: (if true then "x" else v0)>`, "1"},
		// Any: both are cast, the first one first, but one that is any.
		right{"any", "if true then {a: 1} else {b: 2}", "(if true then <0 {a: int} => any: {a: 1}> else <1 {b: int} => any: {b: 2}>)", "14 26"},
		right{"any", "if true then v else 2", "(if true then v0 else <0 int => any: 2>)", "21"},
		right{"any", "if true then 1 else v", "(if true then <0 int => any: 1> else v0)", "14"},
		right{"any", "if true then v else v", "(if true then v0 else v0)", ""},
		right{"any", "if true then f else k", "(if true then <0 int -> str => any: g1> else <1 any -> any => any: g2>)", "14 21"},
		right{"{a: int} | null", "if true then v else {b: 2}", "(if true then <0 null | {a: int} => any: v0> else <1 {b: int} => any: {b: 2}>)", "14 21"},
		// The test is cast ahead of what is in the branches, and that ahead of the branches themselves.
		right{"any", "if v then v + 1 else v", "(if <0 any => bool: v0> then <2 int => any: (<1 any => int: v0> op0 1)> else v0)", "4 11 13"},
		right{"any", "if v then {a: v + 1} else {b: -v}", "(if <0 any => bool: v0> then <3 {a: int} => any: {a: (<1 any => int: v0> op0 1)}> else <4 {b: int} => any: {b: (- <2 any => int: v0>)}>)", "4 15 32 11 27"},
		right{"any", "if v then if v then 1 else v else 2", "(if <0 any => bool: v0> then (if <1 any => bool: v0> then <2 int => any: 1> else v0) else <3 int => any: 2>)", "4 14 21 35"},
		right{"any", "if v(1) then 2 else 3", "<3 int => any: (if <2 any => bool: <0 any => any -> any: v0>(<1 int => any: 1>)> then 2 else 3)>", "5 6 5 1"},
	)
	holdBad(t,
		bad{"any", "if 1 then 2 else 3", 4, api.ErrMatch},
		bad{"any", "if 1 + 2 then 2 else 3", 6, api.ErrMatch},
		bad{"bool | null", "if v then 2 else 3", 4, api.ErrMatch},
		// The test, whether it fits, the first branch, the second one.
		bad{"any", "if x then y else z", 4, api.ErrName},
		bad{"any", "if 1 then y else z", 4, api.ErrMatch},
		bad{"any", "if true then y else z", 14, api.ErrName},
		bad{"any", "if true then 1 else z", 21, api.ErrName},
		bad{"any", "if true then {a: 1} else {b: z}", 30, api.ErrName},
		bad{"any", "1 + (if true then 2 else null)", 6, api.ErrMatch},
	)
}

// P9.1: a test that asks for a variable's tag tells something of it in both branches.
func TestIfIs(t *testing.T) {
	for _, c := range [][4]string{
		// Of any.
		{"any", "null", "null", "any"},
		{"any", "bool", "bool", "any"},
		{"any", "int", "int", "any"},
		{"any", "str", "str", "any"},
		{"any", "record", "{}", "any"},
		{"any", "function", "any", "any"},
		// Of a union: its part, and the rest.
		{"int | null", "null", "null", "int"},
		{"int | null", "int", "int", "null"},
		{"int | null | str", "int", "int", "null | str"},
		{"int | null | {a: str}", "record", "{a: str}", "null | int"},
		{"int | (str -> int)", "function", "str -> int", "int"},
		{"int | null", "str", "null | int", "null | int"},
		// Of any other type.
		{"int", "int", "int", "int"},
		{"int", "str", "int", "int"},
		{"{a: int}", "record", "{a: int}", "{a: int}"},
		{"int -> str", "null", "int -> str", "int -> str"},
	} {
		// A function tells by its type what v is: it is seen where it is cast.
		text := "if v is " + c[1] + " then (fn (z: str) => v) as any else (fn (z: str) => v) as any"
		p, d := Check(linked(t, framed(c[0], text)))
		if len(d) > 0 {
			t.Errorf("v: %s, %s: %v", c[0], text, d)
			continue
		}
		yes, no := typ("str -> "+c[2]), typ("str -> "+c[3])
		tag := p.Funs[3].Body.Kids[0].N
		want := form{text: "(if (v0 is #) then @ else @)"}.fill([]string{castText(0, "(fn v0)", yes, typ("any")), castText(1, "(fn v0)", no, typ("any"))}, tag, "")
		if got := coreText(p.Funs[3].Body); got != want {
			t.Errorf("v: %s, %s:\ngot  %s\nwant %s", c[0], text, got, want)
		}
	}
}

// P9.1: which variable it is, and where it is told.
func TestIfIsWhere(t *testing.T) {
	holdRight(t,
		right{"int | null", "if v is null then 1 else v", "<0 int => any: (if (v0 is 0) then 1 else v0)>", "1"},
		right{"int | null", "if (v is int) then v + 1 else 0", "<0 int => any: (if (v0 is 2) then (v0 op0 1) else 0)>", "1"},
		right{"any", "if v is int then v + 1 else 0", "<0 int => any: (if (v0 is 2) then (v0 op0 1) else 0)>", "1"},
		right{"any", "if v is int then 0 else v + 1", "<1 int => any: (if (v0 is 2) then 0 else (<0 any => int: v0> op0 1))>", "25 1"},
		right{"any", "if v is function then v(1) else 0", "(if (v0 is 5) then <0 any => any -> any: v0>(<1 int => any: 1>) else <2 int => any: 0>)", "24 25 33"},
		right{"any", "if v is record then {v with a: 1} else 0", "<0 int | {a: int} => any: (if (v0 is 4) then {v0 with a: 1} else 0)>", "1"},
		// The variable is what it was behind the choice, and ahead of it.
		right{"any", "(if v is int then v else 0) + v", "<1 int => any: ((if (v0 is 2) then v0 else 0) op0 <0 any => int: v0>)>", "31 29"},
		right{"any", "if v is int then (if v is str then v + 1 else v + 2) else 0", "<0 int => any: (if (v0 is 2) then (if (v0 is 3) then (v0 op0 1) else (v0 op0 2)) else 0)>", "1"},
		right{"int | str | null", "if v is int then v else if v is str then 1 else if v is null then 2 else v", "<0 null | int => any: (if (v0 is 2) then v0 else (if (v0 is 3) then 1 else (if (v0 is 0) then 2 else v0)))>", "1"},
		// Of two of one name the last one.
		right{"any", "let w: int | null = 1; let v: str | null = null; if v is null then w else v", "<0 null | int | str => any: (let 1; (let null; (if (v2 is 0) then v1 else v2)))>", "1"},
		right{"any", "let w = v; if w is int then w + v else 0", "<1 int => any: (let v0; (if (v1 is 2) then (v1 op0 <0 any => int: v0>) else 0))>", "33 1"},
		right{"int | null", "let v: any = 1; if v is int then v + 1 else 0", "<1 int => any: (let <0 int => any: 1>; (if (v1 is 2) then (v1 op0 1) else 0))>", "14 1"},
		right{"any", "fn (v: int | null) => if v is int then v + 1 else 0", "<0 null | int -> int => any: (fn (if (v1 is 2) then (v1 op0 1) else 0))>", "1"},
		right{"any", "if v is int then let v = null; v else v", "(if (v0 is 2) then <0 null => any: (let null; v1)> else v0)", "18"},
		right{"any", "if v is int then fn (w) => v + 1 else null", "<0 null | (any -> int) => any: (if (v0 is 2) then (fn (v0 op0 1)) else null)>", "1"},
		// A name that is no variable, another expression, and a test that has more in it: nothing is told of anything.
		right{"any", "if f is int then f else f", "<0 int -> str => any: (if (g1 is 2) then g1 else g1)>", "1"},
		right{"{a: any}", "if v.a is int then v.a + 1 else 0", "<1 int => any: (if (v0.a is 2) then (<0 any => int: v0.a> op0 1) else 0)>", "21 1"},
		right{"any", "if not (v is int) then 0 else v + 1", "<1 int => any: (if (not (v0 is 2)) then 0 else (<0 any => int: v0> op0 1))>", "31 1"},
		right{"any", "if v is int and true then v + 1 else 0", "<1 int => any: (if (if (v0 is 2) then true else false) then (<0 any => int: v0> op0 1) else 0)>", "27 1"},
		right{"any", "if (let w = v; w is int) then v + 1 else 0", "<1 int => any: (if (let v0; (v1 is 2)) then (<0 any => int: v0> op0 1) else 0)>", "31 1"},
		right{"any", "if (v as any) is int then v + 1 else 0", "<1 int => any: (if (v0 is 2) then (<0 any => int: v0> op0 1) else 0)>", "27 1"},
		right{"any", "v is int and v + 1 == 2", "<1 bool => any: (if (v0 is 2) then ((<0 any => int: v0> op0 1) == 2) else false)>", "14 10"},
	)
	holdBad(t,
		bad{"any", "if z is int then 1 else 2", 4, api.ErrName},
		bad{"int | null", "if v is int then 0 else v + 1", 25, api.ErrMatch},
		bad{"int | null", "if v is null then v + 1 else 0", 19, api.ErrMatch},
		bad{"int | null", "(if v is int then v else 0) + v", 31, api.ErrMatch},
		bad{"int | null", "let w = v; if w is int then v + 1 else 0", 29, api.ErrMatch},
		bad{"any", "if v is record then v.a else 0", 22, api.ErrField},
		bad{"any", "if id is int then 1 else 2", 4, api.ErrInst},
	)
}

// P9.1: is, whatever it asks.
func TestIs(t *testing.T) {
	for n, tag := range []string{"null", "bool", "int", "str", "record", "function"} {
		holdRight(t,
			right{"any", "v is " + tag, fmt.Sprintf("<0 bool => any: (v0 is %d)>", n), "3"},
			right{"any", "v + 1 is " + tag, fmt.Sprintf("<1 bool => any: ((<0 any => int: v0> op0 1) is %d)>", n), "1 7"},
			right{"{a: int}", "not (v is " + tag + ")", fmt.Sprintf("<0 bool => any: (not (v0 is %d))>", n), "1"},
		)
	}
	holdBad(t, bad{"any", "z is int", 1, api.ErrName}, bad{"any", "1 + (1 is int)", 8, api.ErrMatch})
}

// P9.1: as.
func TestAs(t *testing.T) {
	holdRight(t,
		// A type that it is Sub of: no cast, but that type.
		right{"int", "v as int", "<0 int => any: v0>", "3"},
		right{"int", "v as int | null", "<0 null | int => any: v0>", "3"},
		right{"{a: int, b: str}", "v as {b: str}", "<0 {b: str} => any: v0>", "3"},
		right{"any", "v as any", "v0", ""},
		right{"any", "1 + 2 as int", "<0 int => any: (1 op0 2)>", "7"},
		// From any, to any.
		right{"any", "v as int", "<1 int => any: <0 any => int: v0>>", "3 3"},
		right{"any", "v as {a: any}", "<1 {a: any} => any: <0 any => {a: any}: v0>>", "3 3"},
		right{"int", "v as any", "<0 int => any: v0>", "3"},
		right{"any", "1 as any", "<0 int => any: 1>", "3"},
		// Both casts have one site.
		right{"int", "v as str", "<1 str => any: <0 any => str: <0 int => any: v0>>>", "3 3"},
		right{"int | null", "v as int", "<1 int => any: <0 any => int: <0 null | int => any: v0>>>", "3 3"},
		right{"{a: any}", "v as {a: int}", "<1 {a: int} => any: <0 any => {a: int}: <0 {a: any} => any: v0>>>", "3 3"},
		right{"{a: int}", "v as {a: any}", "<1 {a: any} => any: <0 any => {a: any}: <0 {a: int} => any: v0>>>", "3 3"},
		right{"int -> int", "v as any -> int", "<1 any -> int => any: <0 any => any -> int: <0 int -> int => any: v0>>>", "3 3"},
		// The place is its own, also where it is coerced; the next site is the next number.
		right{"any", "(v as int) + (v as int)", "<2 int => any: (<0 any => int: v0> op0 <1 any => int: v0>)>", "4 17 12"},
		right{"int", "k(v as str) as int", "<3 int => any: <2 any => int: g2(<1 str => any: <0 any => str: <0 int => any: v0>>>)>>", "5 5 13 13"},
		right{"any", "(v + 1) as any", "<1 int => any: (<0 any => int: v0> op0 1)>", "2 9"},
	)
	holdBad(t,
		bad{"any", "v as Z", 3, api.ErrType},
		bad{"any", "v as any | int", 3, api.ErrType},
		bad{"any", "z as Z", 1, api.ErrName},
		bad{"int", "(v as str) + 1", 4, api.ErrMatch},
		bad{"{a: int, b: str}", "(v as {b: str}).a", 16, api.ErrField},
	)
}

// P9.1: operations.
func TestOps(t *testing.T) {
	for text, n := range map[string]int{"+": 0, "-": 1, "*": 2, "/": 3, "%": 4, "<<": 5, ">>": 6, "&": 7, "^": 8, "<": 9, "<=": 10} {
		is := "int"
		if n >= 9 {
			is = "bool"
		}
		col := fmt.Sprint(4 + len(text))
		holdRight(t,
			right{"any", "1 " + text + " 2", fmt.Sprintf("<0 %s => any: (1 op%d 2)>", is, n), "3"},
			right{"any", "v " + text + " v", fmt.Sprintf("<2 %s => any: (<0 any => int: v0> op%d <1 any => int: v0>)>", is, n), "1 " + col + " 3"},
			// One side is cast ahead of the other one's being gone through.
			right{"any", "v(1) " + text + " v(2)", fmt.Sprintf("<6 %s => any: (<2 any => int: <0 any => any -> any: v0>(<1 int => any: 1>)> op%d <5 any => int: <3 any => any -> any: v0>(<4 int => any: 2>)>)>", is, n),
				fmt.Sprintf("2 3 2 %d %d %d 6", 8+len(text), 9+len(text), 8+len(text))},
		)
		holdBad(t,
			bad{"any", "null " + text + " 1", 1, api.ErrMatch},
			bad{"any", `1 ` + text + ` "x"`, 4 + len(text), api.ErrMatch},
			bad{"int | null", "v " + text + " z", 1, api.ErrMatch},
			bad{"any", "y " + text + " z", 1, api.ErrName},
			bad{"any", "1 " + text + " z", 4 + len(text), api.ErrName},
		)
	}
	holdBad(t, bad{"any", "(1 < 2) + 1", 4, api.ErrMatch}, bad{"any", "if 1 + 2 then 1 else 2", 6, api.ErrMatch}, bad{"any", "1 + (2 <= 3)", 8, api.ErrMatch})
}

// P9.1: operations of others than numbers.
func TestOtherOps(t *testing.T) {
	holdRight(t,
		right{"any", "true or false", "<0 bool => any: (if true then true else false)>", "6"},
		right{"any", "false and true", "<0 bool => any: (if false then true else false)>", "7"},
		right{"bool", "v or v", "<0 bool => any: (if v0 then true else v0)>", "3"},
		right{"bool", "v and v", "<0 bool => any: (if v0 then v0 else false)>", "3"},
		right{"any", "v or v", "<2 bool => any: (if <0 any => bool: v0> then true else <1 any => bool: v0>)>", "1 6 3"},
		right{"any", "v and v", "<2 bool => any: (if <0 any => bool: v0> then <1 any => bool: v0> else false)>", "1 7 3"},
		right{"any", "v(1) and v(2)", "<6 bool => any: (if <2 any => bool: <0 any => any -> any: v0>(<1 int => any: 1>)> then <5 any => bool: <3 any => any -> any: v0>(<4 int => any: 2>)> else false)>", "2 3 2 11 12 11 6"},
		right{"any", "v(1) or v(2)", "<6 bool => any: (if <2 any => bool: <0 any => any -> any: v0>(<1 int => any: 1>)> then true else <5 any => bool: <3 any => any -> any: v0>(<4 int => any: 2>)>)>", "2 3 2 10 11 10 6"},
		// Whatever two are held against each other, nothing is cast.
		right{"any", "v == 1", "<0 bool => any: (v0 == 1)>", "3"},
		right{"any", "null == 1", "<0 bool => any: (null == 1)>", "6"},
		right{"any", "f == {}", "<0 bool => any: (g1 == {})>", "3"},
		right{"any", `"a" ++ "b"`, `<0 str => any: ("a" ++ "b")>`, "5"},
		right{"any", `v ++ v`, `<2 str => any: (<0 any => str: v0> ++ <1 any => str: v0>)>`, "1 6 3"},
		right{"any", "v(1) ++ v(2)", "<6 str => any: (<2 any => str: <0 any => any -> any: v0>(<1 int => any: 1>)> ++ <5 any => str: <3 any => any -> any: v0>(<4 int => any: 2>)>)>", "2 3 2 10 11 10 6"},
		right{"any", "not true", "<0 bool => any: (not true)>", "1"},
		right{"any", "not v", "<1 bool => any: (not <0 any => bool: v0>)>", "5 1"},
		right{"any", "-1", "<0 int => any: (- 1)>", "1"},
		right{"any", "-v", "<1 int => any: (- <0 any => int: v0>)>", "2 1"},
		right{"any", "- -v", "<1 int => any: (- (- <0 any => int: v0>))>", "4 1"},
		right{"any", "print(1)", "<0 null => any: print(1)>", "1"},
		right{"any", "print(v)", "<0 null => any: print(v0)>", "1"},
		right{"any", "print(print(v + 1))", "<1 null => any: print(print((<0 any => int: v0> op0 1)))>", "13 1"},
	)
	holdBad(t,
		bad{"any", "1 or true", 1, api.ErrMatch},
		bad{"any", "true or 1", 9, api.ErrMatch},
		bad{"any", "1 or z", 1, api.ErrMatch},
		bad{"any", "true or z", 9, api.ErrName},
		bad{"any", "null and z", 1, api.ErrMatch},
		bad{"any", "true and 1 + 1", 12, api.ErrMatch},
		bad{"any", "true and z", 10, api.ErrName},
		bad{"any", "y == z", 1, api.ErrName},
		bad{"any", "1 == z", 6, api.ErrName},
		bad{"any", `1 ++ "a"`, 1, api.ErrMatch},
		bad{"any", `1 ++ z`, 1, api.ErrMatch},
		bad{"any", `"a" ++ 1`, 8, api.ErrMatch},
		bad{"any", `"a" ++ z`, 8, api.ErrName},
		bad{"any", "not 1", 5, api.ErrMatch},
		bad{"any", "not z", 5, api.ErrName},
		bad{"any", "- null", 3, api.ErrMatch},
		bad{"any", "-z", 2, api.ErrName},
		bad{"any", "-(1 == 2)", 5, api.ErrMatch},
		bad{"any", "print(z)", 7, api.ErrName},
		bad{"any", "1 + print(1)", 5, api.ErrMatch},
		bad{"any", "not (1 + 1)", 8, api.ErrMatch},
		bad{"any", `-("a" ++ "b")`, 7, api.ErrMatch},
	)
}
