package flat

import (
	"math"
	"reflect"
	"testing"

	"gradus/api"
	"gradus/coerce"
)

// P14.1: what can't go on ends Stuck, behind the lines that were told.
func TestStuck(t *testing.T) {
	values, _ := tagged()
	for tag, v := range values {
		wrong := func(want int, body api.Core) {
			t.Helper()
			got := told(Run(byHand(body, num(9)), 0, nil, plenty))
			if (got == "print 1; stuck") == (tag == want) {
				t.Errorf("%v: %s", body, got)
			}
		}
		said := say(1, v)
		for op := range api.Ops {
			wrong(api.TagInt, numbered(api.COp, op, said, num(2)))
			wrong(api.TagInt, numbered(api.COp, op, num(2), said))
		}
		wrong(api.TagInt, core(api.CNeg, said))
		wrong(api.TagBool, core(api.CNot, said))
		wrong(api.TagBool, core(api.CIf, said, num(1), num(2)))
		wrong(api.TagStr, core(api.CCat, said, str("a")))
		wrong(api.TagStr, core(api.CCat, str("a"), said))
		wrong(api.TagRec, sel(said, "a"))
		wrong(api.TagRec, with(said, "a", num(1)))
		wrong(api.TagFun, call(said, num(1)))
	}
	holdCores(t,
		// A field that is not there, also of a record that is coerced there.
		tells("stuck", sel(rec("a", num(1)), "b")),
		tells("stuck", sel(rec(""), "a")),
		tells("stuck", sel(coerced(rec("b", num(1)), onField("a", noInt(3))), "a")),
		// Variables and functions that there are not.
		tells("print 1; stuck", say(1, variable(2))),
		tells("stuck", variable(1)),
		tells("stuck", variable(-1)),
		tells("stuck", variable(math.MaxInt)),
		tells("stuck", global(1)),
		tells("stuck", global(-1)),
		tells("print 1; stuck", say(1, makes(1))),
		tells("print 1; stuck", say(1, makes(-1))),
		tells("print 1; stuck", say(1, makes(0, 2))),
		tells("print 1; stuck", say(1, makes(0, 0, -1))),
		tells("stuck", call(makes(1, 0), num(1)), variable(2)),
		// Cores that are none, or that are not of flat functions.
		tells("print 1; stuck", say(1, core(api.CFn))),
		tells("print 1; stuck", say(1, core(api.CKinds))),
		tells("print 1; stuck", say(1, core(-1))),
		tells("print 1; stuck", say(1, numbered(api.COp, api.Ops, num(1), num(2)))),
		tells("print 1; stuck", say(1, numbered(api.COp, -1, num(1), num(2)))),
	)
	if got := told(Run(byHand(core(api.CFn, num(1))), 0, nil, plenty)); got != "stuck" {
		t.Error(got)
	}
}

// P1: functions that lack something, or are none.
func TestLacking(t *testing.T) {
	for _, l := range [][]api.Flat{nil, {}, {{Name: "main.main", Caps: -1, Body: core(-1)}}} {
		for _, main := range []int{-1, 0, 1, math.MinInt, math.MaxInt} {
			for _, fuel := range []int{math.MinInt, -1, 0, 1, math.MaxInt} {
				if got := told(Run(l, main, []int{1}, fuel)); got != "stuck" {
					t.Errorf("%v, %d, %d: %s", l, main, fuel, got)
				}
			}
		}
	}
	if got := told(Run(make([]api.Flat, 3), 2, nil, 0)); got != "done 0" {
		t.Error(got)
	}
	for kind := -1; kind <= api.CKinds; kind++ {
		for kids := range 4 {
			for n := -1; n < 3; n++ {
				c := numbered(kind, n, make([]api.Core, kids)...)
				Run(byHand(c), 0, nil, plenty)
				Run(byHand(call(makes(0), c), call(global(0), c), c), 1, nil, plenty)
				c.Names, c.Types, c.Cos, c.Ints = []string{"a", "a"}, make([]api.Type, kids), make([]api.Co, kids), []int{n, kids}
				Run(byHand(c), 0, nil, plenty)
				c.Types, c.Cos = []api.Type{{}, {Kind: api.TVar}}, []api.Co{{Tags: make([]int, 3)}}
				Run(byHand(c, c, c), 1, []int{}, plenty)
			}
		}
	}
}

// P1: coercions and casts that are none.
func TestWrongCoercions(t *testing.T) {
	loop := api.Co{Tags: make([]int, api.Tags), Names: []string{"a"}, Fields: make([]api.Co, 1), Fun: make([]api.Co, 2)}
	loop.Fields[0], loop.Fun[0], loop.Fun[1] = loop, loop, loop
	short := api.Co{Tags: make([]int, api.Tags), Names: []string{"a"}, Fun: make([]api.Co, 1)}
	unsorted := api.Co{Tags: make([]int, api.Tags), Names: []string{"b", "a"}, Fields: []api.Co{noInt(3), noInt(5)}}
	for _, c := range []api.Co{{}, loop, short, unsorted, {Tags: make([]int, 7)}, tags(-1, -1, -1, -1, -1, -1), {Needs: []api.Need{{}}}} {
		for _, d := range []api.Co{c, onField("a", noStr(2)), onFun(noStr(2), noStr(3)), coerce.Id()} {
			for _, v := range []api.Core{rec("a b", num(1), num(2)), makes(1), num(1)} {
				for _, e := range []api.Core{coerced(v, d, c), coerced(v, c, d), coerced(v, c, c, c)} {
					Run(byHand(let(e, sel(variable(1), "a")), variable(0)), 0, nil, plenty)
					Run(byHand(let(e, with(variable(1), "b", num(1))), variable(0)), 0, nil, plenty)
					Run(byHand(let(e, call(variable(1), variable(1))), variable(0)), 0, nil, plenty)
				}
			}
		}
	}
	// Two that can't be put together.
	holdCores(t,
		tells("print 1; stuck", say(1, sel(coerced(rec("c a", num(1), num(2)), unsorted, unsorted), "c"))),
		tells("print 1; stuck", say(1, coerced(rec(""), unsorted, onField("a", noStr(2))))),
	)
	around := api.Type{Kind: api.TRec, Names: []string{"a"}, Kids: make([]api.Type, 1)}
	around.Kids[0] = around
	for _, is := range []api.Type{around, {Kind: api.TVar, Name: "A"}, {Kind: -1}, {Kind: api.TFun}, {Kind: api.TUnion}, {Kind: api.TRec, Names: []string{"a"}}} {
		c := cast(0, "any", "int", say(1, num(1)))
		c.Types[1] = is
		if got := told(Run(byHand(c), 0, nil, plenty)); got != "print 1; stuck" {
			t.Errorf("%d: %s", is.Kind, got)
		}
	}
	// Labels that are none: 2 N and 2 is 0, or its other side is.
	holdCores(t, tells("stuck", cast(-1, "any", "int", num(1))), tells("stuck", cast(math.MaxInt, "any", "int", num(1))))
}

// P1: what stands within itself ends, and what stands in so many places that it is all but endless.
func TestEndless(t *testing.T) {
	for _, kind := range []int{api.CInt, api.CCall, api.CIf, api.CLet, api.CPrint} {
		within := make([]api.Core, 3)
		c := api.Core{Kind: kind, Names: []string{"a", "b", "c"}, Types: []api.Type{{}, {}}, Cos: []api.Co{coerce.Id()}, Kids: within}
		for at := range within {
			// Within itself as each of its Kids, the others being plain ones.
			for i := range within {
				within[i] = boolean(i)
			}
			within[at] = c
			for _, l := range [][]api.Flat{{{Body: c}}, {{Body: num(1)}, {}, {Body: c}}} {
				if got := told(Run(l, 0, nil, plenty)); got != "stuck" {
					t.Errorf("kind %d, Kid %d: %s", kind, at, got)
				}
			}
		}
		many := boolean(1)
		for range 60 {
			many = api.Core{Kind: kind, Names: []string{"a", "b", "c"}, Types: []api.Type{{}, {}}, Cos: []api.Co{coerce.Id()}, Kids: []api.Core{many, many, many}}
		}
		if got := told(Run([]api.Flat{{Body: many}}, 0, nil, plenty)); got != "stuck" {
			t.Errorf("kind %d: %s", kind, got)
		}
	}
}

// P1: as much within one another as the document's bound admits.
func TestNested(t *testing.T) {
	const high = 1 << 16
	for i, c := range []struct {
		start  api.Core
		around func(api.Core) api.Core
		want   string
	}{
		{boolean(1), func(c api.Core) api.Core { return core(api.CNot, c) }, "done true"},
		{num(0), func(c api.Core) api.Core { return sub(c, num(1)) }, "done -65536"},
		{num(0), func(c api.Core) api.Core { return sub(num(1), c) }, "done 0"},
		{num(1), func(c api.Core) api.Core { return rec("a", c) }, "done {a: {..}}"},
		{num(1), func(c api.Core) api.Core { return core(api.CIf, boolean(1), c, num(2)) }, "done 1"},
		{variable(0), func(c api.Core) api.Core { return let(num(2), c) }, "done null"},
		{variable(high), func(c api.Core) api.Core { return let(num(2), c) }, "done 2"},
		{num(1), func(c api.Core) api.Core { return let(c, variable(1)) }, "done 1"},
		{num(1), func(c api.Core) api.Core { return cast(0, "any", "int", c) }, "done 1"},
		{num(1), func(c api.Core) api.Core { return call(global(1), c) }, "fuel"},
	} {
		body := c.start
		for range high {
			body = c.around(body)
		}
		if got := told(Run([]api.Flat{{Body: body}, {Body: num(2)}}, 0, nil, plenty)); got != c.want {
			t.Errorf("%d: %s, not %s", i, got, c.want)
		}
	}
}

// spoilOne changes one thing somewhere in a value.
func (c *chance) spoilOne(v reflect.Value) {
	switch v.Kind() {
	case reflect.Int:
		v.SetInt(int64([]int{-1, 0, 1, 2, 3, 5, 8, 14, 21, 23, 24, 1 << 40}[c.below(12)]))
	case reflect.String:
		v.SetString([]string{"", "a", "b", "c", "zz", "\x00"}[c.below(6)])
	case reflect.Struct:
		c.spoilOne(v.Field(c.below(v.NumField())))
	case reflect.Slice:
		switch n := v.Len(); {
		case n > 0 && c.below(5) > 0:
			c.spoilOne(v.Index(c.below(n)))
		case n > 0 && c.below(2) == 0:
			v.Set(v.Slice(0, n-1))
		case n > 0 && c.below(3) == 0:
			v.SetZero()
		default:
			v.Set(reflect.Append(v, reflect.New(v.Type().Elem()).Elem()))
		}
	}
}

// P1: what clos has not answered ends, too.
func TestSpoilt(t *testing.T) {
	c := chance(4242)
	p := program(t, ownText)
	all := forms(p)
	var ends [6]int
	for i := range 9000 {
		given := copyAll(all[i%3])
		for range 1 + c.below(6) {
			c.spoilOne(reflect.ValueOf(&given).Elem())
		}
		before := copyAll(given)
		tr := Run(given, p.Main, []int{7, i % 4}, 50)
		if !reflect.DeepEqual(given, before) {
			t.Fatalf("%d: what was handed in has become something else", i)
		}
		ends[tr.End]++
	}
	for end, number := range ends {
		if (end != api.EndMemory) != (number > 100) {
			t.Errorf("the end %d came up %d times", end, number)
		}
	}
}
