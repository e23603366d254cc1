package norm

import (
	"testing"

	"gradus/api"
	"gradus/coerce"
)

// holdChain holds what becomes of coercions around a core, the first of which is the innermost one, with true. With
// false they stay as they are.
func holdChain(t *testing.T, kid, want api.Core, list ...api.Co) {
	t.Helper()
	given := chain(kid, list...)
	holdBody(t, false, given, copyAll(given))
	holdBody(t, true, given, want)
	holdBody(t, true, fn(let(given, num(1))), fn(let(want, num(1))))
}

// tagged is a core whose tag is told by its kind: coercions that let it pass are left out.
type tagged struct {
	kid api.Core
	tag int
}

func alone() []tagged {
	return []tagged{
		{core(api.CNull), api.TagNull},
		{numbered(api.CBool, 0), api.TagBool},
		{numbered(api.CBool, 1), api.TagBool},
		{num(0), api.TagInt},
		{num(-7), api.TagInt},
		{core(api.CRead), api.TagInt},
		{str(""), api.TagStr},
		{str("s"), api.TagStr},
		{fn(variable(1)), api.TagFun},
		{numbered(api.CGlobal, 0), api.TagFun},
	}
}

// others are cores of all other kinds: of these just Id is left out.
func others() []api.Core {
	list := []api.Core{variable(0), {Kind: api.CMake, N: 1, Ints: []int{0}}}
	for _, c := range kindsWithKids() {
		if c.Kind == api.CFn || c.Kind == api.CCast || c.Kind == api.CCo {
			continue
		}
		for i := range c.Kids {
			c.Kids[i] = num(i)
		}
		list = append(list, copyAll(c))
	}
	return list
}

// P12.2: a coercion around a core that is told by its kind.
func TestAlone(t *testing.T) {
	for _, c := range alone() {
		stays := func(co api.Co) { holdChain(t, c.kid, on(co, c.kid), co) }
		goes := func(co api.Co) { holdChain(t, c.kid, c.kid, co) }
		goes(coerce.Id())
		goes(butFor(c.tag, 2))
		goes(needs("a", 2))
		goes(onField("a", tags(2, 2, 2, 2, 2, 2)))
		stays(tags(3, 3, 3, 3, 3, 3))
		stays(tags(-1, -1, -1, -1, -1, -1))
		for tag := range api.Tags {
			if tag == c.tag {
				stays(blames(tag, 2))
				stays(blames(tag, 3))
			} else {
				goes(blames(tag, 2))
			}
		}
		// A Fun matters to functions alone.
		for _, co := range []api.Co{onFun(tags(2), tags()), onFun(tags(), tags(2)), onFun(tags(0, 0, 0, 0, 0, 3), onField("a", tags(5)))} {
			if c.tag == api.TagFun {
				stays(co)
			} else {
				goes(co)
			}
		}
	}
}

// P12.2: a coercion around any other core stays, unless it is Id.
func TestOthers(t *testing.T) {
	for _, kid := range others() {
		holdChain(t, kid, kid, coerce.Id())
		holdChain(t, kid, kid, coerce.Id(), coerce.Id(), coerce.Id())
		for _, co := range []api.Co{
			tags(2), tags(2, 2, 0, 2, 2, 2), tags(0, 0, 0, 0, 0, 1), needs("a", 2), onField("a", tags(2)), onFun(tags(2), tags()), onFun(tags(), tags(2)),
		} {
			holdChain(t, kid, on(co, kid), co)
			holdChain(t, kid, on(co, kid), co, coerce.Id())
			holdChain(t, kid, on(co, kid), coerce.Id(), co)
			holdChain(t, kid, on(co, kid), coerce.Id(), coerce.Id(), co, coerce.Id())
		}
	}
}

// P12.2: coercions right within one another come to one, the former ones ahead of the latter.
func TestTogether(t *testing.T) {
	v := variable(0)
	null, truth, number := blames(api.TagNull, 2), blames(api.TagBool, 4), blames(api.TagInt, 6)
	holdChain(t, v, on(tags(2, 4), v), null, truth)
	holdChain(t, v, on(tags(2, 4), v), truth, null)
	holdChain(t, v, on(tags(2, 4, 6), v), null, truth, number)
	holdChain(t, v, on(tags(2, 4, 6), v), number, coerce.Id(), truth, coerce.Id(), null)
	// Of one tag the first one counts.
	two, three, five := tags(2, 2), tags(0, 3, 3), tags(5, 5, 5, 5)
	holdChain(t, v, on(tags(2, 2, 3), v), two, three)
	holdChain(t, v, on(tags(2, 3, 3), v), three, two)
	holdChain(t, v, on(tags(2, 2, 3, 5), v), two, three, five)
	holdChain(t, v, on(tags(5, 5, 5, 5), v), five, two, three)
	holdChain(t, v, on(tags(5, 3, 3, 5), v), three, five, two)
	holdChain(t, v, on(tags(2, 2, 3, 5, 7, 7), v), two, three, five, two, tags(7, 7, 7, 7, 7, 7), five, three)
	// Needs, in their order.
	ab := coerce.Id()
	ab.Needs = []api.Need{{Name: "b", Label: 2}, {Name: "a", Label: 3}, {Name: "c", Label: 9}}
	holdChain(t, v, on(ab, v), needs("b", 2), needs("a", 3), needs("b", 5), needs("c", 9))
	// Fields, and what they are blamed for.
	holdChain(t, v, on(onField("a", tags(2, 4)), v), onField("a", null), onField("a", truth))
	both := coerce.Id()
	both.Names, both.Fields = []string{"a", "b"}, []api.Co{tags(2, 2), onField("c", tags(5))}
	holdChain(t, v, on(both, v), onField("b", onField("c", tags(5))), onField("a", two), onField("a", tags(9, 9)))
	// Functions: what is taken goes through the latter first, what is answered through the former.
	holdChain(t, v, on(onFun(tags(3), tags(2)), v), onFun(tags(2), tags(2)), onFun(tags(3), tags(3)))
	holdChain(t, v, on(onFun(tags(5, 3), tags(2, 5, 6)), v), onFun(tags(2, 2), tags(2)), onFun(tags(3, 3), tags(3, 5)), onFun(tags(5), tags(7, 7, 6)))
	// Nothing of a record or a function is left to be done, where it is blamed.
	blamed := tags(0, 0, 0, 0, 3, 3)
	holdChain(t, v, on(blamed, v), blamed, onField("a", null), onFun(null, truth), needs("a", 2))
	holdChain(t, v, on(blamed, v), onField("a", null), onFun(null, truth), blamed)
}

// P12.2: from the innermost on. What is left out around a core that is told by its kind plays no part in those around it.
func TestFromTheInnermost(t *testing.T) {
	one, f := num(1), numbered(api.CGlobal, 2)
	holdChain(t, one, on(tags(0, 0, 4), one), tags(2, 2, 0, 2, 2, 2), tags(0, 0, 4))
	holdChain(t, one, on(tags(4, 4, 4), one), tags(2, 2, 0, 2, 2, 2), onFun(tags(5), tags(5)), tags(4, 4, 4))
	holdChain(t, one, one, tags(2, 2, 0, 2, 2, 2), tags(4, 4, 0, 4), needs("a", 6), onFun(tags(7), tags(8)))
	// Once it stays, all those around it are put to it.
	holdChain(t, one, on(tags(6, 0, 4), one), tags(2, 2), tags(0, 0, 4), tags(6))
	holdChain(t, one, on(tags(6, 0, 4, 6, 6, 6), one), tags(2, 2), tags(0, 0, 4), tags(6, 0, 6, 6, 6, 6), coerce.Id())
	holdChain(t, f, on(onFun(tags(), tags(5)), f), tags(2, 2, 2, 2, 2), onFun(tags(), tags(5)))
	holdChain(t, f, on(tags(3, 3, 3, 3, 3, 3), f), tags(2, 2, 2, 2, 2), tags(3, 3, 3, 3, 3, 3))
	holdChain(t, f, f, tags(2, 2, 2, 2, 2), needs("a", 3), onField("a", tags(9)))
	// The same around a core that is not: all of it counts.
	holdChain(t, variable(1), on(tags(2, 2, 4, 2, 2, 2), variable(1)), tags(2, 2, 0, 2, 2, 2), tags(0, 0, 4))
}

// P12.2: what stands in a Kid of a core is trimmed ahead of what stands around that.
func TestWithin(t *testing.T) {
	v, c, d := variable(0), tags(2), tags(0, 4)
	both := tags(2, 4)
	// The coercions of a function's body, or of what is read by it, are not right within those around it.
	holdBody(t, true, chain(fn(chain(v, c, d)), c, d), fn(on(both, v)))
	holdBody(t, true, chain(core(api.CNot, chain(v, c, d)), c, d), on(both, core(api.CNot, on(both, v))))
	holdBody(t, true, chain(let(chain(v, c), chain(v, d)), c, d), on(both, let(on(c, v), on(d, v))))
	holdBody(t, true, chain(let(chain(num(1), c), chain(v, tags())), tags()), let(num(1), v))
	// A cast and a coercion right within one another, either way.
	toBool := tags(6, 0, 6, 6, 6, 6)
	holdBody(t, true, on(c, cast(2, "any", "bool", v)), on(toBool, v))
	holdBody(t, true, cast(2, "any", "bool", on(c, v)), on(tags(2, 0, 6, 6, 6, 6), v))
	holdBody(t, false, cast(2, "any", "bool", on(c, v)), on(toBool, on(c, v)))
}

// P12.1, P12.2: casts of texts.
func TestTexts(t *testing.T) {
	for _, c := range []struct{ text, plain, trims string }{
		{"((((1 as any) as int) as any) as str) as any", "[id: [n8 b8 i8 r8 f8: [id: [n4 b4 s4 r4 f4: [id: 1]]]]]", "[n8 b8 i8 r8 f8: 1]"},
		{"((((x as int) as any) as int) as any) as str", "[id: [n10 b10 i10 r10 f10: [id: [n6 b6 s6 r6 f6: [id: [n2 b2 s2 r2 f2: v0]]]]]]", "[n2 b2 i10 s2 r2 f2: v0]"},
		{"((x as any -> int) as any) as int -> any", "[(n9 b9 s9 r9 f9 ~ id): [n6 b6 i6 s6 r6: [id: [n2 b2 i2 s2 r2 (id ~ n2 b2 s2 r2 f2): v0]]]]", "[n2 b2 i2 s2 r2 (n9 b9 s9 r9 f9 ~ n2 b2 s2 r2 f2): v0]"},
		{"main as any -> int", "[id: [n2 b2 i2 s2 r2 (id ~ n2 b2 s2 r2 f2): [id: g0]]]", "[n2 b2 i2 s2 r2 (id ~ n2 b2 s2 r2 f2): g0]"},
		{"(main as any) as any -> any", "[id: [n4 b4 i4 s4 r4: [id: g0]]]", "g0"},
		{"(fn (y) => 1) as any -> any", "[id: [n2 b2 i2 s2 r2: [id: fn(1)]]]", "fn(1)"},
		{"((fn (y) => y + 1) as any) as {a: int}", "[id: [n6 b6 i6 s6 f6 a!6 a=n6 b6 s6 r6 f6: [id: fn(op([n2 b2 s2 r2 f2: v1], 1))]]]", "[n6 b6 i6 s6 f6 a!6 a=n6 b6 s6 r6 f6: fn(op([n2 b2 s2 r2 f2: v1], 1))]"},
		{"(read() as any) as int", "[id: [n4 b4 s4 r4 f4: [id: read]]]", "read"},
		{"(read() as any) as null", "[id: [b4 i4 s4 r4 f4: [id: read]]]", "[b4 i4 s4 r4 f4: read]"},
		{"(null as any) as null", "[id: [b4 i4 s4 r4 f4: [id: null]]]", "null"},
		{"(true as any) as bool", "[id: [n4 i4 s4 r4 f4: [id: true]]]", "true"},
		{"(\"s\" as any) as str", "[id: [n4 b4 i4 r4 f4: [id: \"s\"]]]", "\"s\""},
		{"({a: 1} as any) as {a: int}", "[id: [n4 b4 i4 s4 f4 a!4 a=n4 b4 s4 r4 f4: [id: {a: 1}]]]", "[n4 b4 i4 s4 f4 a!4 a=n4 b4 s4 r4 f4: {a: 1}]"},
		{"(({a: x} as any) as {b: int}) as any", "[id: [n4 b4 i4 s4 f4 b!4 b=n4 b4 s4 r4 f4: [id: {a: v0}]]]", "[n4 b4 i4 s4 f4 b!4 b=n4 b4 s4 r4 f4: {a: v0}]"},
	} {
		holdText(t, "fn main(x) = "+c.text+";", []string{"main = " + c.plain}, []string{"main = " + c.trims})
	}
}
