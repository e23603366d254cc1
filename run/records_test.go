package run

import (
	"fmt"
	"strings"
	"testing"

	"gradus/api"
)

// P11.1: CRec, CSel and CWith of records that bear nothing.
func TestRecords(t *testing.T) {
	three := rec("m c x", num(1), num(2), num(3))
	holdCores(t,
		cores{sel(three, "m"), "done 1"},
		cores{sel(three, "c"), "done 2"},
		cores{sel(three, "x"), "done 3"},
		cores{sel(rec("a A", num(1), num(2)), "A"), "done 2"},
		cores{sel(sel(rec("a", rec("a", num(4))), "a"), "a"), "done 4"},
		// A name that is there already.
		cores{with(three, "c", num(9)), "done {c: 9, m: 1, x: 3}"},
		cores{with(three, "m", num(9)), "done {c: 2, m: 9, x: 3}"},
		cores{with(three, "x", str("z")), `done {c: 2, m: 1, x: "z"}`},
		// A new one: the first, within, the last.
		cores{with(three, "a", num(9)), "done {a: 9, c: 2, m: 1, x: 3}"},
		cores{with(three, "d", num(9)), "done {c: 2, d: 9, m: 1, x: 3}"},
		cores{with(three, "n", num(9)), "done {c: 2, m: 1, n: 9, x: 3}"},
		cores{with(three, "z", num(9)), "done {c: 2, m: 1, x: 3, z: 9}"},
		cores{with(rec(""), "z", num(9)), "done {z: 9}"},
		cores{with(with(rec(""), "z", num(9)), "z", num(8)), "done {z: 8}"},
		cores{sel(with(three, "d", num(9)), "m"), "done 1"},
		cores{sel(with(three, "d", num(9)), "d"), "done 9"},
		cores{sel(with(three, "c", num(9)), "c"), "done 9"},
		// The record that it is made of stays as it was.
		cores{let(three, let(with(variable(1), "c", num(9)), sel(variable(1), "c"))), "done 2"},
		cores{let(three, let(with(variable(1), "d", num(9)), let(with(variable(1), "e", num(8)), rec("p q r", sel(variable(2), "d"), sel(variable(3), "e"), core(api.CPrint, variable(1)))))),
			"print {c: 2, m: 1, x: 3}; done {p: 9, q: 8, r: null}"},
	)
	holdRuns(t,
		runs{"fn main(x) = let r = {a: 1, b: 2}; let s = {r with a: 3}; let a = print(r); s;", "print {a: 1, b: 2}; done {a: 3, b: 2}"},
		runs{"fn f(r: {a: int}): {a: str} = {r with a: \"s\"}; fn main(x) = f({b: 1, a: 2});", `done {a: "s", b: 1}`},
		runs{"fn f(r) = {r with c: 1}; fn main(x) = f({b: 1, a: 2});", "done {a: 2, b: 1, c: 1}"},
		runs{"fn f(r) = @1{r with c: 1}; fn main(x) = f(1);", "blame own 1"},
	)
}

// P11.1: many names, whatever their order.
func TestManyNames(t *testing.T) {
	const count = 300
	body := rec("")
	for i := range count {
		body = with(body, fmt.Sprintf("f%03d", i*77%count), num(i*77%count))
	}
	var want []string
	for i := range count {
		want = append(want, fmt.Sprintf("f%03d: %d", i, i))
	}
	holdCores(t, cores{body, "done {" + strings.Join(want, ", ") + "}"})
	for _, i := range []int{0, 1, 149, 299} {
		holdCores(t, cores{sel(body, fmt.Sprintf("f%03d", i)), fmt.Sprint("done ", i)})
	}
}

// P11.1: a coerced record's fields are as they are read: each time anew, and not ahead of that.
func TestCoercedRecords(t *testing.T) {
	r := cast(0, "any", "{a: int, b: str}", rec("a b c", str("x"), str("y"), num(3)))
	holdCores(t,
		cores{sel(r, "b"), `done "y"`},
		cores{sel(r, "c"), "done 3"},
		cores{sel(r, "a"), "blame 2"},
		cores{numbered(api.CIs, api.TagRec, r), "done true"},
		cores{let(r, say(1, let(sel(variable(1), "b"), num(5)))), "print 1; done 5"},
		cores{let(r, let(core(api.CPrint, num(1)), sel(variable(1), "a"))), "print 1; blame 2"},
		// CWith reads all but the name that it sets.
		cores{with(r, "a", num(1)), `done {a: 1, b: "y", c: 3}`},
		cores{with(r, "b", num(1)), "blame 2"},
		cores{with(r, "d", num(1)), "blame 2"},
		cores{with(r, "A", num(1)), "blame 2"},
		cores{with(say(1, r), "d", say(2, num(1))), "print 1; print 2; blame 2"},
		// What it makes bears nothing, but its fields do.
		cores{sel(with(r, "a", num(1)), "a"), "done 1"},
		cores{sel(with(r, "a", str("n")), "a"), `done "n"`},
	)
	// Fields are read by rising names, however the record was written, and not as they stand in the coercion.
	for i, c := range []struct{ name, want string }{{"z", "blame 3"}, {"a", "blame 5"}, {"b", "blame 3"}, {"c", "blame 3"}} {
		co := api.Co{Tags: make([]int, api.Tags), Names: []string{"a", "b", "c"}}
		for _, label := range []int{3, 5, 7} {
			co.Fields = append(co.Fields, api.Co{Tags: []int{0, 0, label, 0, 0, 0}})
		}
		body := with(coerced(co, rec("c b a", num(1), num(2), num(3))), c.name, nothing())
		if got := told(Run(byHand(body), nil, 0)); got != c.want {
			t.Error(i, got, c.want)
		}
	}
	holdRuns(t,
		runs{"fn main(x) = let r: {a: int, b: int} = ({a: 1, b: \"s\"} as any); let p = print(r); r.a;", `print {a: 1, b: "s"}; done 1`},
		runs{"fn main(x) = let r = (({a: 1, b: \"s\"} as any) @1as {a: int, b: int}); let p = print(r.a); r.b;", "print 1; blame own 1"},
		runs{"fn main(x) = let r = (({a: 1, b: \"s\"} as any) @1as {a: int, b: int}); {r with b: 2};", "done {a: 1, b: 2}"},
		runs{"fn main(x) = let r = (({a: 1, b: \"s\"} as any) @1as {a: int, b: int}); {r with a: 2};", "blame own 1"},
	)
}

// P11.1: fields that are read of a coerced record are coerced themselves, also within what CWith makes.
func TestFieldsWithin(t *testing.T) {
	deep := cast(1, "any", "{r: {a: int}, f: int -> int}", rec("r f", rec("a", str("x")), fn(str("y"))))
	holdCores(t,
		cores{sel(deep, "r"), `done {a: "x"}`},
		cores{sel(sel(deep, "r"), "a"), "blame 4"},
		cores{call(sel(deep, "f"), num(1)), "blame 4"},
		cores{call(sel(deep, "f"), str("z")), "blame 4"},
		cores{sel(with(deep, "n", num(1)), "r"), `done {a: "x"}`},
		cores{sel(sel(with(deep, "n", num(1)), "r"), "a"), "blame 4"},
		cores{call(sel(with(deep, "n", num(1)), "f"), num(1)), "blame 4"},
		cores{sel(sel(with(deep, "r", rec("a", str("x"))), "r"), "a"), `done "x"`},
	)
}
