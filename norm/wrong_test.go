package norm

import (
	"math"
	"reflect"
	"testing"

	"gradus/api"
	"gradus/coerce"
)

// holdEnds holds that Norm ends, panics nowhere, and changes nothing of what is handed in. It hands on what is answered.
func holdEnds(t *testing.T, p api.Program) (plain, trims api.Program) {
	t.Helper()
	before := copyAll(p)
	plain, trims = Norm(p, false), Norm(p, true)
	if !reflect.DeepEqual(p, before) {
		t.Errorf("%s has become %s", whole(before), whole(p))
	}
	return plain, trims
}

// P1: programs that lack something. What there is of them stays.
func TestLacking(t *testing.T) {
	for _, p := range []api.Program{
		{}, {Main: 5}, {Main: -1}, {Main: math.MinInt}, {Funs: []api.Fun{}, Sites: []api.Site{}}, {Funs: make([]api.Fun, 3), Main: 3},
		{Sites: []api.Site{{Module: -1, Line: -2, Col: math.MaxInt}}}, byHand(core(-1)), byHand(core(api.CKinds, core(math.MaxInt, core(math.MinInt)))),
		byHand(make([]api.Core, 300)...),
	} {
		if plain, trims := holdEnds(t, p); !same(plain, p) || !same(trims, p) {
			t.Errorf("%s has become %s, and %s", whole(p), whole(plain), whole(trims))
		}
	}
	for kind := -1; kind <= api.CKinds; kind++ {
		for kids := range 4 {
			for types := range 4 {
				for cos := range 3 {
					k := numbered(kind, 1, make([]api.Core, kids)...)
					k.Types, k.Cos = make([]api.Type, types), make([]api.Co, cos)
					holdEnds(t, byHand(k, fn(k), core(api.CCall, k, k)))
					holdEnds(t, byHand(on(tags(2), k), cast(0, "any", "int", k), on(tags(), on(tags(2), k))))
					k.Cos = []api.Co{tags(2), {Tags: make([]int, 3)}}
					holdEnds(t, byHand(on(tags(2), k), cast(0, "any", "int", k), on(tags(), on(tags(2), k))))
				}
			}
		}
	}
}

// P1, P12.1: casts of which Make tells nothing: the coercion that stands there is the one of noughts.
func TestWrongCasts(t *testing.T) {
	around := api.Type{Kind: api.TRec, Names: []string{"a"}, Kids: make([]api.Type, 1)}
	around.Kids[0] = around
	broad := api.Type{Kind: api.TFun, Kids: make([]api.Type, 2)}
	broad.Kids[0], broad.Kids[1] = broad, broad
	wrong := []api.Type{{Kind: api.TVar, Name: "A"}, {Kind: -1}, {Kind: api.TFun}, {Kind: api.TUnion}, {Kind: api.TRec, Names: []string{"a"}}, {Kind: api.TUnion + 99}}
	for _, is := range wrong {
		for _, k := range append(others(), num(1), fn(num(1)), core(api.CRead), core(api.CNull)) {
			from, to := cast(0, "any", "int", k), cast(0, "any", "int", k)
			from.Types[0], to.Types[1] = is, is
			for _, c := range []api.Core{from, to, cast(-1, "any", "int", k), cast(math.MaxInt, "any", "int", k)} {
				plain, trims := holdEnds(t, byHand(c))
				if want := byHand(on(api.Co{}, k)); !same(plain, want) || !same(trims, want) {
					t.Errorf("%s: %s, %s", whole(c), whole(plain), whole(trims))
				}
				holdEnds(t, byHand(on(tags(2), c), cast(0, "any", "int", c), on(tags(2), on(tags(3), c))))
			}
		}
	}
	// 2 N and 2 goes round.
	least := math.MinInt
	holdBody(t, true, cast(1<<62-1, "any", "int", variable(0)), on(tags(least, least, 0, least, least, least), variable(0)))
	for _, is := range []api.Type{around, broad} {
		c := cast(0, "any", "int", variable(0))
		c.Types[1] = is
		Norm(byHand(c), false)
		Norm(byHand(on(tags(2), c)), true)
	}
}

// P1: coercions that are none.
func TestWrongCoercions(t *testing.T) {
	short := api.Co{Tags: make([]int, api.Tags), Names: []string{"a"}, Fun: make([]api.Co, 1)}
	unsorted := api.Co{Tags: make([]int, api.Tags), Names: []string{"b", "a"}, Fields: []api.Co{tags(3), tags(5)}}
	list := []api.Co{{}, short, unsorted, {Tags: make([]int, 7)}, {Tags: []int{2}}, {Tags: make([]int, 5)}, {Needs: []api.Need{{}}}, {Fun: make([]api.Co, 3)}, needs("a", 0), onFun(tags(), tags()), onField("a", tags())}
	for _, c := range list {
		for _, d := range append(list, tags(2), coerce.Id(), onField("a", tags(2)), onFun(tags(), tags(3))) {
			for _, k := range append(others(), num(1), fn(num(1)), core(api.CRead), core(api.CNull)) {
				holdEnds(t, byHand(chain(k, c), chain(k, c, d), chain(k, d, c), chain(k, c, d, c), cast(0, "any", "int", chain(k, c, d))))
			}
		}
	}
}

// P1: what stands within itself comes to an end, and so does what stands in so many places that it is all but endless.
func TestEndless(t *testing.T) {
	noughts := func(what string, p api.Program) {
		t.Helper()
		for _, trim := range []bool{false, true} {
			if got := Norm(p, trim); !same(got, api.Program{}) {
				t.Errorf("%s, %v: not noughts", what, trim)
			}
		}
	}
	loop := api.Type{Kind: api.TFun, Kids: make([]api.Type, 2)}
	loop.Kids[0] = loop
	co := api.Co{Tags: make([]int, api.Tags), Names: []string{"a"}, Fields: make([]api.Co, 1), Fun: make([]api.Co, 2)}
	fields, fun := co, co
	fields.Fields = []api.Co{coerce.Id()}
	fields.Fields[0] = fields
	fun.Fun[1] = fun
	manyTypes, manyCos, manyFields := typ("int"), coerce.Id(), coerce.Id()
	for range 60 {
		manyTypes = api.Type{Kind: api.TFun, Kids: []api.Type{manyTypes, manyTypes}}
		manyCos = api.Co{Tags: make([]int, api.Tags), Fun: []api.Co{manyCos, manyCos}}
		manyFields = api.Co{Tags: make([]int, api.Tags), Names: []string{"a", "b"}, Fields: []api.Co{manyFields, manyFields}}
	}
	for _, is := range []api.Type{loop, manyTypes} {
		p := byHand(num(1), num(2))
		p.Funs[1].Type = is
		noughts("the type of a function", p)
		for _, kind := range []int{api.CFn, api.CCast, api.CMake} {
			noughts("the type of a core", byHand(fn(api.Core{Kind: kind, Types: []api.Type{is, is}, Kids: []api.Core{num(1)}})))
		}
	}
	for _, c := range []api.Co{fields, fun, manyCos, manyFields} {
		for _, kind := range []int{api.CFn, api.CCast, api.CCo} {
			noughts("a coercion", byHand(fn(api.Core{Kind: kind, Cos: []api.Co{c}, Kids: []api.Core{num(1)}})))
		}
		noughts("a coercion within others", byHand(chain(num(1), c, tags(2), c)))
	}
	for kind := range api.CKinds {
		within := make([]api.Core, 3)
		c := api.Core{Kind: kind, Names: []string{"a", "b", "c"}, Types: []api.Type{{}, {}}, Cos: []api.Co{coerce.Id()}, Kids: within}
		for at := range within {
			for i := range within {
				within[i] = num(i)
			}
			within[at] = c
			noughts("a core", byHand(num(1), c))
		}
		alone := api.Core{Kind: kind, Types: []api.Type{{}, {}}, Cos: []api.Co{coerce.Id()}, Kids: make([]api.Core, 1)}
		alone.Kids[0] = alone
		noughts("a core alone", byHand(alone))
	}
	for _, kind := range []int{api.CCall, api.CCast, api.CCo} {
		many := num(1)
		for range 60 {
			many = api.Core{Kind: kind, Kids: []api.Core{many, many}}
		}
		noughts("many cores", byHand(many))
	}
}

// P1: as much within one another as the document's bound admits.
func TestNested(t *testing.T) {
	const high = 1 << 16
	depth := func(c api.Core) (n int, last api.Core) {
		for len(c.Kids) > 0 {
			n, c = n+1, c.Kids[len(c.Kids)-1]
		}
		return n, c
	}
	for i, c := range []struct {
		around      func(api.Core) api.Core
		plain, trim int // how many are around, of each that there was
	}{
		{func(c api.Core) api.Core { return core(api.CNot, c) }, 1, 1},
		{func(c api.Core) api.Core { return fn(c) }, 1, 1},
		{func(c api.Core) api.Core { return let(num(1), c) }, 1, 1},
		{func(c api.Core) api.Core { return cast(0, "any", "any", c) }, 1, 0},
		{func(c api.Core) api.Core { return on(tags(2), c) }, 1, -1},
		{func(c api.Core) api.Core { return on(tags(0, 0, 0, 0, 2), c) }, 1, -1},
	} {
		for extra := range 2 {
			body := variable(1)
			for range high + extra {
				body = c.around(body)
			}
			for trim, each := range map[bool]int{false: c.plain, true: c.trim} {
				got := Norm(byHand(body, num(1)), trim)
				if extra > 0 {
					if !same(got, api.Program{}) {
						t.Errorf("%d, %v: more than may be is not noughts", i, trim)
					}
					continue
				}
				want := high * each
				if each < 0 { // all of them are one
					want = 1
				}
				if len(got.Funs) != 2 {
					t.Errorf("%d, %v: %d functions", i, trim, len(got.Funs))
				} else if n, last := depth(got.Funs[0].Body); n != want || !same(last, variable(1)) {
					t.Errorf("%d, %v: %d around %s", i, trim, n, whole(last))
				}
			}
		}
	}
}

// spoilOne changes one thing somewhere in a value.
func (c *chance) spoilOne(v reflect.Value) {
	switch v.Kind() {
	case reflect.Int:
		v.SetInt(int64([]int{-1, 0, 1, 2, 3, 5, 8, 14, 21, 22, 23, 24, 1 << 40}[c.below(13)]))
	case reflect.String:
		v.SetString([]string{"", "a", "b", "c", "zz", "\x00"}[c.below(6)])
	case reflect.Struct:
		c.spoilOne(v.Field(c.below(v.NumField())))
	case reflect.Slice:
		switch n := v.Len(); {
		case n > 0 && c.below(5) > 0:
			c.spoilOne(v.Index(c.below(n)))
		case n > 0 && c.below(2) == 0:
			v.Set(v.Slice(0, n-1))
		case n > 0 && c.below(3) == 0:
			v.SetZero()
		default:
			v.Set(reflect.Append(v, reflect.New(v.Type().Elem()).Elem()))
		}
	}
}

// P1: what check has not answered ends, too.
func TestSpoilt(t *testing.T) {
	c := chance(4242)
	p := program(t, fullText)
	all := []api.Program{p, Norm(p, false), Norm(p, true)}
	for i := range 3000 {
		given := copyAll(all[i%3])
		for range 1 + c.below(6) {
			c.spoilOne(reflect.ValueOf(&given).Elem())
		}
		plain, trims := holdEnds(t, given)
		if len(plain.Funs) != len(given.Funs) || len(trims.Funs) != len(given.Funs) || trims.Main != given.Main {
			t.Fatalf("%s\nhas become %s\nand %s", whole(given), whole(plain), whole(trims))
		}
	}
}
