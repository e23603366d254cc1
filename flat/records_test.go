package flat

import (
	"fmt"
	"strings"
	"testing"

	"gradus/api"
)

// P14.1: CRec, CSel and CWith of records that bear nothing.
func TestRecords(t *testing.T) {
	three := rec("m c x", num(1), num(2), num(3))
	holdCores(t,
		tells("done 1", sel(three, "m")),
		tells("done 2", sel(three, "c")),
		tells("done 3", sel(three, "x")),
		tells("done 2", sel(rec("a A", num(1), num(2)), "A")),
		tells("done 4", sel(sel(rec("a", rec("a", num(4))), "a"), "a")),
		// A name that is there already.
		tells("done {c: 9, m: 1, x: 3}", with(three, "c", num(9))),
		tells("done {c: 2, m: 9, x: 3}", with(three, "m", num(9))),
		tells(`done {c: 2, m: 1, x: "z"}`, with(three, "x", str("z"))),
		// A new one: the first, within, the last.
		tells("done {a: 9, c: 2, m: 1, x: 3}", with(three, "a", num(9))),
		tells("done {c: 2, d: 9, m: 1, x: 3}", with(three, "d", num(9))),
		tells("done {c: 2, m: 1, n: 9, x: 3}", with(three, "n", num(9))),
		tells("done {c: 2, m: 1, x: 3, z: 9}", with(three, "z", num(9))),
		tells("done {z: 9}", with(rec(""), "z", num(9))),
		tells("done {z: 8}", with(with(rec(""), "z", num(9)), "z", num(8))),
		tells("done 1", sel(with(three, "d", num(9)), "m")),
		tells("done 9", sel(with(three, "d", num(9)), "d")),
		tells("done 9", sel(with(three, "c", num(9)), "c")),
		// The record that it is made of stays as it was, also where a function was made with it.
		tells("done 2", let(three, let(with(variable(1), "c", num(9)), sel(variable(1), "c")))),
		tells("print {c: 2, m: 1, x: 3}; done {p: 9, q: 8, r: null}",
			let(three, let(with(variable(1), "d", num(9)), let(with(variable(1), "e", num(8)), rec("p q r", sel(variable(2), "d"), sel(variable(3), "e"), print(variable(1))))))),
		tells("print {c: 9, m: 1, x: 3}; done {c: 2, m: 1, x: 3}", let(three, let(makes(1, 1), let(print(with(variable(1), "c", num(9))), call(variable(2), num(0))))), variable(0)),
	)
	holdRuns(t,
		runs{"fn main(x) = let r = {a: 1, b: 2}; let s = {r with a: 3}; let a = print(r); s;", "print {a: 1, b: 2}; done {a: 3, b: 2}"},
		runs{"fn f(r: {a: int}): {a: str} = {r with a: \"s\"}; fn main(x) = f({b: 1, a: 2});", `done {a: "s", b: 1}`},
		runs{"fn f(r) = {r with c: 1}; fn main(x) = f({b: 1, a: 2});", "done {a: 2, b: 1, c: 1}"},
		runs{"fn f(r) = @1{r with c: 1}; fn main(x) = f(1);", "blame own 1"},
	)
}

// P14.1: many names, whatever their order.
func TestManyNames(t *testing.T) {
	const count = 300
	body := rec("")
	for i := range count {
		body = with(body, fmt.Sprintf("f%03d", i*77%count), num(i*77%count))
	}
	var want []string
	for i := range count {
		want = append(want, fmt.Sprintf("f%03d: %d", i, i))
	}
	holdCores(t, tells("done {"+strings.Join(want, ", ")+"}", body))
	for _, i := range []int{0, 1, 149, 299} {
		holdCores(t, tells(fmt.Sprint("done ", i), sel(body, fmt.Sprintf("f%03d", i))))
	}
}

// P14.1: a coerced record's fields are as they are read: each time anew, and not ahead of that.
func TestCoercedRecords(t *testing.T) {
	r := cast(0, "any", "{a: int, b: str}", rec("a b c", str("x"), str("y"), num(3)))
	holdCores(t,
		tells(`done "y"`, sel(r, "b")),
		tells("done 3", sel(r, "c")),
		tells("blame 2", sel(r, "a")),
		tells("done true", numbered(api.CIs, api.TagRec, r)),
		tells("print 1; done 5", let(r, say(1, let(sel(variable(1), "b"), num(5))))),
		tells("print 1; blame 2", let(r, let(print(num(1)), sel(variable(1), "a")))),
		// CWith reads all but the name that it sets.
		tells(`done {a: 1, b: "y", c: 3}`, with(r, "a", num(1))),
		tells("blame 2", with(r, "b", num(1))),
		tells("blame 2", with(r, "d", num(1))),
		tells("blame 2", with(r, "A", num(1))),
		tells("print 1; print 2; blame 2", with(say(1, r), "d", say(2, num(1)))),
		// What it makes bears nothing, but its fields do.
		tells("done 1", sel(with(r, "a", num(1)), "a")),
		tells(`done "n"`, sel(with(r, "a", str("n")), "a")),
	)
	// Fields are read by rising names, however the record was written.
	list := api.Co{Tags: make([]int, api.Tags), Names: []string{"a", "b", "c"}}
	for _, label := range []int{3, 5, 7} {
		list.Fields = append(list.Fields, noInt(label))
	}
	for name, want := range map[string]string{"z": "blame 3", "a": "blame 5", "b": "blame 3", "c": "blame 3"} {
		for _, names := range []string{"c b a", "a b c", "b a c", "c a b"} {
			holdCores(t, tells(want, with(coerced(rec(names, num(1), num(2), num(3)), list), name, nothing())))
		}
	}
	holdRuns(t,
		runs{"fn main(x) = let r: {a: int, b: int} = ({a: 1, b: \"s\"} as any); let p = print(r); r.a;", `print {a: 1, b: "s"}; done 1`},
		runs{"fn main(x) = let r = (({a: 1, b: \"s\"} as any) @1as {a: int, b: int}); let p = print(r.a); r.b;", "print 1; blame own 1"},
		runs{"fn main(x) = let r = (({a: 1, b: \"s\"} as any) @1as {a: int, b: int}); {r with b: 2};", "done {a: 1, b: 2}"},
		runs{"fn main(x) = let r = (({a: 1, b: \"s\"} as any) @1as {a: int, b: int}); {r with a: 2};", "blame own 1"},
		runs{"fn main(x) = let r = (({a: 1, b: \"s\"} as any) @1as {a: int, b: int}); let f = fn (y) => if y then r.a else r.b; let p = print(f(true)); f(false);", "print 1; blame own 1"},
	)
}

// P14.1: fields that are read of a coerced record are coerced themselves, also within what CWith makes.
func TestFieldsWithin(t *testing.T) {
	deep := cast(1, "any", "{r: {a: int}, f: int -> int}", rec("r f", rec("a", str("x")), global(1)))
	s := str("y")
	holdCores(t,
		tells(`done {a: "x"}`, sel(deep, "r"), s),
		tells("blame 4", sel(sel(deep, "r"), "a"), s),
		tells("blame 4", call(sel(deep, "f"), num(1)), s),
		tells("blame 4", call(sel(deep, "f"), str("z")), s),
		tells(`done {a: "x"}`, sel(with(deep, "n", num(1)), "r"), s),
		tells("blame 4", sel(sel(with(deep, "n", num(1)), "r"), "a"), s),
		tells("blame 4", call(sel(with(deep, "n", num(1)), "f"), num(1)), s),
		tells(`done "x"`, sel(sel(with(deep, "r", rec("a", str("x"))), "r"), "a"), s),
	)
}
