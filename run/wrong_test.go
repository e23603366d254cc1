package run

import (
	"fmt"
	"math"
	"reflect"
	"testing"

	"gradus/api"
	"gradus/coerce"
)

// P11.2: what can't go on ends Stuck, behind the lines that were told.
func TestStuck(t *testing.T) {
	for tag, v := range eachTag() {
		wrong := func(want int, body api.Core) {
			t.Helper()
			got := told(Run(byHand(body), nil, plenty))
			if (got == "print 1; stuck") == (tag == want) {
				t.Errorf("%v: %s", body, got)
			}
		}
		said := say(1, v)
		for op := range api.Ops {
			wrong(api.TagInt, numbered(api.COp, op, said, num(2)))
			wrong(api.TagInt, numbered(api.COp, op, num(2), said))
		}
		wrong(api.TagInt, core(api.CNeg, said))
		wrong(api.TagBool, core(api.CNot, said))
		wrong(api.TagBool, core(api.CIf, said, num(1), num(2)))
		wrong(api.TagStr, core(api.CCat, said, str("a")))
		wrong(api.TagStr, core(api.CCat, str("a"), said))
		wrong(api.TagRec, sel(said, "a"))
		wrong(api.TagRec, with(said, "a", num(1)))
		wrong(api.TagFun, call(said, num(1)))
	}
	holdCores(t,
		cores{sel(rec("a", num(1)), "b"), "stuck"},
		cores{sel(rec(""), "a"), "stuck"},
		cores{sel(cast(0, "any", "{b: int}", rec("b", num(1))), "a"), "stuck"},
		cores{variable(1), "stuck"},
		cores{variable(-1), "stuck"},
		cores{call(fn(variable(2)), num(1)), "stuck"},
		cores{global(1), "stuck"},
		cores{global(-1), "stuck"},
		cores{say(1, core(api.CMake)), "print 1; stuck"},
		cores{say(1, core(api.CKinds)), "print 1; stuck"},
		cores{say(1, core(-1)), "print 1; stuck"},
		cores{say(1, numbered(api.COp, api.Ops, num(1), num(2))), "print 1; stuck"},
		cores{say(1, numbered(api.COp, -1, num(1), num(2))), "print 1; stuck"},
		// Fuel is looked at ahead of what is called.
		cores{call(num(1), num(2)), "stuck"},
	)
	if got := told(Run(byHand(call(num(1), num(2))), nil, 0)); got != "fuel" {
		t.Error(got)
	}
}

// P1: programs that lack something.
func TestLacking(t *testing.T) {
	for _, p := range []api.Program{
		{}, {Main: 5}, {Main: -1}, {Main: math.MaxInt}, {Funs: []api.Fun{}}, {Funs: make([]api.Fun, 1), Main: 1}, {Funs: make([]api.Fun, 1), Main: -1},
	} {
		if got := told(Run(p, []int{1}, plenty)); got != "stuck" {
			t.Errorf("%v: %s", p, got)
		}
	}
	if got := told(Run(api.Program{Funs: make([]api.Fun, 1)}, nil, 0)); got != "done 0" {
		t.Error(got)
	}
	for kind := -1; kind <= api.CKinds; kind++ {
		for kids := range 4 {
			for n := -1; n < 3; n++ {
				c := numbered(kind, n, make([]api.Core, kids)...)
				Run(byHand(c), nil, plenty)
				Run(byHand(fn(c), call(global(0), c)), nil, plenty)
				c.Names, c.Types, c.Cos = []string{"a", "a"}, make([]api.Type, kids), make([]api.Co, kids)
				Run(byHand(c), nil, plenty)
				c.Types, c.Cos = []api.Type{{}, {Kind: api.TVar}}, []api.Co{{Tags: make([]int, 3)}}
				Run(byHand(c, c, c), []int{}, plenty)
			}
		}
	}
}

// P1: coercions and casts that are none.
func TestWrongCoercions(t *testing.T) {
	loop := api.Co{Tags: make([]int, api.Tags), Names: []string{"a"}, Fields: make([]api.Co, 1), Fun: make([]api.Co, 2)}
	loop.Fields[0], loop.Fun[0], loop.Fun[1] = loop, loop, loop
	short := api.Co{Tags: make([]int, api.Tags), Names: []string{"a"}, Fun: make([]api.Co, 1)}
	unsorted := api.Co{Tags: make([]int, api.Tags), Names: []string{"b", "a"}, Fields: []api.Co{noInt(3), noInt(5)}}
	for _, c := range []api.Co{{}, loop, short, unsorted, {Tags: make([]int, 7)}, tags(-1, -1, -1, -1, -1, -1), {Needs: []api.Need{{}}}} {
		for _, d := range []api.Co{c, onField("a", noStr(2)), onFun(noStr(2), noStr(3)), coerce.Id()} {
			for _, v := range []api.Core{rec("a b", num(1), num(2)), fn(variable(1)), num(1)} {
				for _, e := range []api.Core{coerced(c, coerced(d, v)), coerced(d, coerced(c, v)), coerced(c, coerced(c, coerced(c, v)))} {
					Run(byHand(let(e, sel(variable(1), "a"))), nil, plenty)
					Run(byHand(let(e, with(variable(1), "b", num(1)))), nil, plenty)
					Run(byHand(let(e, call(variable(1), variable(1)))), nil, plenty)
				}
			}
		}
	}
	// Two that can't be put together.
	for _, v := range []api.Core{sel(coerced(unsorted, coerced(unsorted, rec("c a", num(1), num(2)))), "c"), coerced(onField("a", noStr(2)), coerced(unsorted, rec("")))} {
		holdCores(t, cores{say(1, v), "print 1; stuck"})
	}
	around := api.Type{Kind: api.TRec, Names: []string{"a"}, Kids: make([]api.Type, 1)}
	around.Kids[0] = around
	for _, is := range []api.Type{around, {Kind: api.TVar, Name: "A"}, {Kind: -1}, {Kind: api.TFun}, {Kind: api.TUnion}, {Kind: api.TRec, Names: []string{"a"}}} {
		c := cast(0, "any", "int", say(1, num(1)))
		c.Types[1] = is
		if got := told(Run(byHand(c), nil, plenty)); got != "print 1; stuck" {
			t.Errorf("%d: %s", is.Kind, got)
		}
	}
	// Labels that are none: 2 N and 2 is 0, or its other side is.
	holdCores(t, cores{cast(-1, "any", "int", num(1)), "stuck"}, cores{cast(math.MaxInt, "any", "int", num(1)), "stuck"})
}

// P1: what stands within itself ends, and what stands in so many places that it is all but endless.
func TestEndless(t *testing.T) {
	for kind := range api.CKinds {
		within := make([]api.Core, 3)
		c := api.Core{Kind: kind, Names: []string{"a", "b", "c"}, Types: []api.Type{{}, {}}, Cos: []api.Co{coerce.Id()}, Kids: within}
		for at := range within {
			// Within itself as each of its Kids, the others being plain ones.
			for i := range within {
				within[i] = boolean(i)
			}
			within[at] = c
			if got := told(Run(byHand(c), nil, plenty)); got != "stuck" {
				t.Errorf("kind %d, Kid %d: %s", kind, at, got)
			}
		}
		many := boolean(1)
		for range 60 {
			many = api.Core{Kind: kind, Names: []string{"a", "b", "c"}, Types: []api.Type{{}, {}}, Cos: []api.Co{coerce.Id()}, Kids: []api.Core{many, many, many}}
		}
		Run(byHand(many), nil, plenty)
	}
}

// P1: as much within one another as the document's bound admits.
func TestNested(t *testing.T) {
	const high = 1 << 16
	nested := func(n int, c api.Core, around func(api.Core) api.Core) api.Core {
		for range n {
			c = around(c)
		}
		return c
	}
	for i, c := range []struct {
		start  api.Core
		around func(api.Core) api.Core
		want   string
	}{
		{boolean(1), func(c api.Core) api.Core { return core(api.CNot, c) }, "done true"},
		{num(0), func(c api.Core) api.Core { return numbered(api.COp, api.OpAdd, c, num(1)) }, fmt.Sprint("done ", high)},
		{num(0), func(c api.Core) api.Core { return numbered(api.COp, api.OpAdd, num(1), c) }, fmt.Sprint("done ", high)},
		{num(1), func(c api.Core) api.Core { return rec("a", c) }, "done {a: {..}}"},
		{num(1), func(c api.Core) api.Core { return core(api.CIf, boolean(1), c, num(2)) }, "done 1"},
		{num(1), func(c api.Core) api.Core { return let(num(2), c) }, "done 1"},
		{num(1), func(c api.Core) api.Core { return cast(0, "any", "int", c) }, "done 1"},
		{num(1), func(c api.Core) api.Core { return fn(c) }, "done fn"},
		{num(1), func(c api.Core) api.Core { return call(global(1), c) }, "fuel"},
	} {
		if got := told(Run(byHand(nested(high, c.start, c.around), num(2)), nil, plenty)); got != c.want {
			t.Errorf("%d: %s, not %s", i, got, c.want)
		}
		if got := told(Run(byHand(nested(high+1, c.start, c.around), num(2)), nil, plenty)); got != "stuck" {
			t.Errorf("%d: %s", i, got)
		}
	}
}

// spoilOne changes one thing somewhere in a value.
func (c *chance) spoilOne(v reflect.Value) {
	switch v.Kind() {
	case reflect.Int:
		v.SetInt(int64([]int{-1, 0, 1, 2, 3, 5, 8, 14, 21, 23, 24, 1 << 40}[c.below(12)]))
	case reflect.String:
		v.SetString([]string{"", "a", "b", "c", "zz", "\x00"}[c.below(6)])
	case reflect.Struct:
		c.spoilOne(v.Field(c.below(v.NumField())))
	case reflect.Slice:
		switch n := v.Len(); {
		case n > 0 && c.below(5) > 0:
			c.spoilOne(v.Index(c.below(n)))
		case n > 0 && c.below(2) == 0:
			v.Set(v.Slice(0, n-1))
		case n > 0 && c.below(3) == 0:
			v.SetZero()
		default:
			v.Set(reflect.Append(v, reflect.New(v.Type().Elem()).Elem()))
		}
	}
}

// P1: what check has not answered ends, too.
func TestSpoilt(t *testing.T) {
	c := chance(4242)
	good := program(t, ownText)
	trims := copyAll(good)
	for i := range trims.Funs {
		trims.Funs[i].Body = withCoercions(trims.Funs[i].Body, false, new(int))
	}
	var ends [6]int
	for i := range 8000 {
		given := copyAll([]api.Program{good, trims}[i%2])
		for range 1 + c.below(4) {
			c.spoilOne(reflect.ValueOf(&given).Elem())
		}
		before := copyAll(given)
		tr := Run(given, []int{7, i % 4}, 50)
		if !reflect.DeepEqual(given, before) {
			t.Fatalf("%d: what was handed in has become something else", i)
		}
		ends[tr.End]++
	}
	for end, number := range ends {
		if (end != api.EndMemory) != (number > 100) {
			t.Errorf("the end %d came up %d times", end, number)
		}
	}
}
