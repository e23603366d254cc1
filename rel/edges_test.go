package rel

import (
	"fmt"
	"strings"
	"testing"

	"gradus/api"
	"gradus/types"
)

// chain is of that height, and as big.
func chain(height int, last api.Type) api.Type {
	for range height - 1 {
		last = record("a", last)
	}
	return last
}

// functions is of that height: each takes an int, and answers the next one.
func functions(height int, last api.Type) api.Type {
	for range height - 1 {
		last = function(intType, last)
	}
	return last
}

// big is a record of that size, from 4 to 16 * 16 + 2, whose last field of the last record within is of the type last.
func big(size int, last api.Type) api.Type {
	t := record("")
	for i := 0; size > 1; i++ {
		inner := min(size-2, 16)
		if size-2-inner == 1 {
			inner--
		}
		kid := record("")
		for k := range inner {
			kid.Names = append(kid.Names, fmt.Sprintf("f%02d", k))
			kid.Kids = append(kid.Kids, strType)
		}
		t.Names = append(t.Names, fmt.Sprintf("g%02d", i))
		t.Kids = append(t.Kids, kid)
		size -= 1 + inner
	}
	kids := t.Kids[len(t.Kids)-1].Kids
	kids[len(kids)-1] = last
	return t
}

func fields(n int) api.Type {
	r := record("")
	for i := range n {
		r.Names = append(r.Names, fmt.Sprintf("f%02d", i))
		r.Kids = append(r.Kids, intType)
	}
	return r
}

// notNormal has one for each line of chapter 3's section Words.
func notNormal() []api.Type {
	named := func(t api.Type) api.Type { t.Name = "x"; return t }
	withNames := func(t api.Type) api.Type { t.Names = []string{"x", "y"}; return t }
	list := []api.Type{variable, leaf(api.TVar), leaf(-1), leaf(9), leaf(1 << 40), leaf(-1 << 63), node(9, intType)}
	for kind := api.TAny; kind <= api.TStr; kind++ {
		list = append(list, named(leaf(kind)), withNames(leaf(kind)), node(kind, intType), node(kind, anyType, anyType))
	}
	for _, name := range []string{"1a", "", "a-b", "é", "let", "record", "any", strings.Repeat("n", 33)} {
		list = append(list, api.Type{Kind: api.TRec, Names: []string{name}, Kids: []api.Type{intType}})
	}
	list = append(list,
		named(record("")), named(record("a", intType)), record("a"), record("", intType), record("a b", intType), record("a", intType, intType),
		record("b a", intType, intType), record("a a", intType, intType), record("a c b", intType, intType, intType), fields(17), fields(40),
		leaf(api.TFun), node(api.TFun, intType), node(api.TFun, intType, intType, intType), named(function(intType, intType)), withNames(function(intType, intType)),
		leaf(api.TUnion), union(intType), union(record("")), union(intType, nullType), union(intType, intType), union(nullType, intType, intType),
		union(anyType, intType), union(intType, anyType), union(anyType), union(union(nullType, intType), strType), union(nullType, union(intType, strType)),
		union(nullType, variable), union(variable, intType), union(nullType, leaf(-1)), union(nullType, leaf(9)), union(record("a", intType), record("b", intType)),
		union(function(intType, intType), record("")), named(union(nullType, intType)), withNames(union(nullType, intType)), node(api.TUnion, leaf(api.TUnion), leaf(api.TUnion)),
	)
	return list
}

// notNormalAround has a type that is normal within others whose own level is not as it must be.
func notNormalAround(t api.Type) []api.Type {
	long := strings.Repeat("n", 33)
	many := fields(17)
	many.Kids[8] = t
	return []api.Type{
		node(api.TAny, t), node(api.TInt, t), node(api.TVar, t), node(-1, t), node(9, t, t),
		{Kind: api.TRec, Name: "x", Names: []string{"a"}, Kids: []api.Type{t}}, record("", t), record("a b", t), record("a", t, t), record("b a", t, t),
		record("a a", t, t), record("1a", t), record("let", t), record(long, t), many,
		node(api.TFun, t), node(api.TFun, t, t, t), {Kind: api.TFun, Name: "x", Kids: []api.Type{t, t}}, {Kind: api.TFun, Names: []string{"a", "b"}, Kids: []api.Type{t, t}},
		union(t), union(t, nullType), union(t, t), union(anyType, t), union(nullType, union(strType, t)), union(variable, t), union(nullType, intType, intType, t),
		{Kind: api.TUnion, Name: "x", Kids: []api.Type{nullType, t}}, {Kind: api.TUnion, Names: []string{"a"}, Kids: []api.Type{nullType, t}},
	}
}

// around is ways in which a type stands within another one; all that is around it is normal.
func around(t api.Type) []api.Type {
	return []api.Type{
		record("a", t), record("a b", intType, t), function(t, intType), function(intType, t), record("a", record("b", t)),
		function(function(t, anyType), anyType), union(nullType, record("a", t)), union(nullType, function(intType, t)), union(nullType, function(t, intType)),
		chain(15, t), chain(16, t), chain(17, t), chain(40, t), functions(17, t), functions(40, t), big(200, t), big(201, t), big(250, t),
		chain(18, union(nullType, record("a", t))), chain(18, function(t, intType)), record("a b", big(240, intType), t), record("a b", t, big(240, intType)),
	}
}

// P6.1 to P6.7: types that are not normal stand to none.
func TestNotNormal(t *testing.T) {
	good := []api.Type{anyType, nullType, intType, record(""), record("a", intType), function(anyType, anyType), function(intType, intType),
		union(nullType, intType), typ("ALL"), chain(16, intType), chain(17, anyType), big(201, intType)}
	anyAround, intAround := around(anyType), around(intType)
	for _, bad := range notNormal() {
		for _, g := range good {
			holdNoStanding(t, bad, g)
			holdNoStanding(t, g, bad)
		}
		holdNarrowWhole(t, bad)
		for i, b := range around(bad) {
			holdNarrow(t, b, api.TagNull, b, b)
			holdNarrow(t, b, api.TagRec, b, b)
			holdNoStanding(t, b, b)
			for _, g := range []api.Type{anyType, anyAround[i], intAround[i]} {
				holdNoStanding(t, b, g)
				holdNoStanding(t, g, b)
			}
		}
	}
	for _, great := range []api.Type{chain(16, intType), chain(17, intType), functions(17, intType), chain(400, intType), big(200, intType), big(201, intType), function(intType, big(250, intType))} {
		for _, bad := range notNormalAround(great) {
			holdNarrowWhole(t, bad)
			for _, b := range []api.Type{bad, chain(3, bad), function(intType, bad)} {
				holdNoStanding(t, b, b)
				holdNoStanding(t, b, anyType)
				holdNoStanding(t, anyType, b)
				holdNoStanding(t, b, great)
				holdNoStanding(t, great, b)
			}
		}
	}
	bad := notNormal()
	for _, a := range bad {
		for _, b := range bad {
			holdNoStanding(t, a, b)
		}
	}
}

func holdNoStanding(t *testing.T, a, b api.Type) {
	t.Helper()
	if got := stands(a, b); got != inNone {
		t.Errorf("%s, %s: %q, and one of both is not normal", short(a), short(b), got)
	}
	holdJoin(t, a, b, anyType)
}

func holdNarrowWhole(t *testing.T, in api.Type) {
	t.Helper()
	for tag := range api.Tags {
		holdNarrow(t, in, tag, in, in)
	}
	for _, tag := range noTags {
		holdNarrow(t, in, tag, in, in)
	}
}

// R6: lists without elements.
func TestEmptyLists(t *testing.T) {
	empty := func(t api.Type) api.Type {
		if t.Names == nil {
			t.Names = []string{}
		}
		if t.Kids == nil {
			t.Kids = []api.Type{}
		}
		return t
	}
	for _, plain := range []api.Type{anyType, nullType, intType, leaf(api.TRec), function(intType, intType), union(nullType, intType), record("a", intType)} {
		in := empty(copyAll(plain))
		for _, pair := range [][2]api.Type{{in, plain}, {plain, in}, {in, in}} {
			if got := stands(pair[0], pair[1]); got != inAll {
				t.Errorf("%s with empty lists: %q", short(plain), got)
			}
			holdJoin(t, pair[0], pair[1], plain)
		}
		for tag := range api.Tags {
			with, without := Narrow(plain, tag)
			holdNarrow(t, in, tag, with, without)
		}
	}
}

// P6.1 to P6.5: being normal does not hang on size and height (chapter 3, Words), nor do these relations.
func TestSizesAndHeights(t *testing.T) {
	makers := map[string]func(last api.Type) api.Type{}
	for _, height := range []int{2, 15, 16, 17, 18, 40, 1000} {
		makers[fmt.Sprint("chain of ", height)] = func(last api.Type) api.Type { return chain(height, last) }
		makers[fmt.Sprint("functions of ", height)] = func(last api.Type) api.Type { return functions(height, last) }
	}
	for _, size := range []int{150, 199, 200, 201, 202, 258} {
		makers[fmt.Sprint("record of ", size)] = func(last api.Type) api.Type { return big(size, last) }
		makers[fmt.Sprint("union with a record of ", size)] = func(last api.Type) api.Type { return union(nullType, big(size, last)) }
		makers[fmt.Sprint("union of all with a function of ", size)] = func(last api.Type) api.Type {
			return union(nullType, leaf(api.TBool), intType, strType, record("a", intType), functions(18, big(size, last)))
		}
	}
	for _, count := range []int{1, 15, 16} {
		makers[fmt.Sprint("fields ", count)] = func(last api.Type) api.Type {
			r := fields(count)
			r.Kids[count-1] = last
			return r
		}
	}
	for name, in := range makers {
		wide := union(nullType, intType)
		for _, c := range []struct {
			a, b  api.Type
			words string
		}{
			{intType, intType, inAll}, {intType, strType, "neg"}, {intType, anyType, loosens}, {anyType, intType, "fits neg"},
			{intType, wide, "sub fits pos neg"}, {wide, intType, "neg"}, {typ("int -> int"), typ("any -> int"), "fits naive pos"},
			{typ("int -> int"), typ("str -> int"), "pos"},
		} {
			if got := stands(in(c.a), in(c.b)); got != c.words {
				t.Errorf("%s, with %s and %s: %q, not %q", name, short(c.a), short(c.b), got, c.words)
			}
		}
		holdJoin(t, in(intType), in(wide), in(wide))
		holdJoin(t, in(wide), in(intType), in(wide))
		holdJoin(t, in(intType), in(strType), anyType)
		holdJoin(t, in(intType), in(anyType), anyType)
		if got := stands(in(intType), anyType); got != loosens && !strings.Contains(name, "function") {
			t.Errorf("%s, any: %q", name, got)
		}
		if got := stands(anyType, in(intType)); got != "fits neg" {
			t.Errorf("any, %s: %q", name, got)
		}
	}
}

// P6.6: Norm refuses the union.
func TestJoinLimits(t *testing.T) {
	for _, c := range []struct {
		name string
		a, b api.Type
		want api.Type
	}{
		{"height 16", chain(15, intType), nullType, union(nullType, chain(15, intType))},
		{"height 17", chain(16, intType), nullType, anyType},
		{"height 18", nullType, chain(17, intType), anyType},
		{"height 3001", nullType, chain(3000, intType), anyType},
		{"height 16, by a function", strType, functions(15, intType), union(strType, functions(15, intType))},
		{"height 17, by a function", strType, functions(16, intType), anyType},
		{"height 16, of three", union(nullType, chain(15, intType)), strType, union(nullType, strType, chain(15, intType))},
		{"height 17, of the part that is left", union(nullType, record("a", intType)), union(strType, chain(16, intType)), anyType},
		{"size 200", big(198, intType), nullType, union(nullType, big(198, intType))},
		{"size 201", big(199, intType), nullType, anyType},
		{"size 202", nullType, big(200, intType), anyType},
		{"size 203", nullType, big(201, intType), anyType},
		{"size 200, of three", union(nullType, big(197, intType)), strType, union(nullType, strType, big(197, intType))},
		{"size 201, of three", union(nullType, big(198, intType)), strType, anyType},
		{"size 200, of two great ones", big(100, intType), function(big(97, intType), intType), union(big(100, intType), function(big(97, intType), intType))},
		{"size 201, of two great ones", big(100, intType), function(big(98, intType), intType), anyType},
		{"the latter is the small one", union(nullType, big(250, intType)), union(strType, record("")), union(nullType, strType, leaf(api.TRec))},
		{"the former is the small one", union(nullType, record("")), union(strType, big(250, intType)), union(nullType, strType, leaf(api.TRec))},
		// One is Sub of the other: no union is made.
		{"the latter, of size 201", big(199, intType), union(nullType, big(199, intType)), union(nullType, big(199, intType))},
		{"the former, of size 201", union(nullType, big(199, intType)), big(199, intType), union(nullType, big(199, intType))},
		{"the latter, of height 17", chain(16, intType), union(nullType, chain(16, intType)), union(nullType, chain(16, intType))},
		{"the same, of height 17", chain(17, intType), chain(17, intType), chain(17, intType)},
		{"the same, of size 201", big(201, intType), big(201, intType), big(201, intType)},
	} {
		if got := Join(c.a, c.b); !types.Same(got, c.want) {
			t.Errorf("%s: %s", c.name, short(got))
		}
	}
}

// P6.7
func TestNarrowLimits(t *testing.T) {
	for _, last := range []api.Type{intType, typ("any -> any")} {
		for _, in := range []api.Type{chain(16, last), chain(17, last), chain(500, last), big(200, last), big(201, last), big(258, last)} {
			for tag := range api.Tags {
				holdNarrow(t, in, tag, in, in)
			}
			two, three := union(nullType, in), union(nullType, intType, in)
			holdNarrow(t, two, api.TagNull, nullType, in)
			holdNarrow(t, two, api.TagRec, in, nullType)
			holdNarrow(t, two, api.TagStr, two, two)
			holdNarrow(t, three, api.TagRec, in, union(nullType, intType))
			holdNarrow(t, three, api.TagInt, intType, two)
			holdNarrow(t, three, api.TagFun, three, three)
			for _, tag := range noTags {
				holdNarrow(t, three, tag, three, three)
			}
		}
	}
}

// braid is of that height: each function takes and answers the next one, or each record has it twice.
func braid(height int, kind int, last api.Type) api.Type {
	for range height - 1 {
		last = api.Type{Kind: kind, Kids: []api.Type{last, last}}
		if kind == api.TRec {
			last.Names = []string{"a", "b"}
		}
	}
	return last
}

func isBareAny(t api.Type) bool { return types.Same(t, anyType) }

// P1: Kids that stand in many places are gone through once.
func TestSharedKids(t *testing.T) {
	for _, kind := range []int{api.TFun, api.TRec} {
		for height := 2; height < 70; height += 3 {
			in := func(last api.Type) api.Type { return braid(height, kind, last) }
			if got := stands(in(intType), in(intType)); got != inAll {
				t.Errorf("kind %d, height %d: %q", kind, height, got)
			}
			if got := stands(in(intType), in(anyType)); !strings.Contains(got, "fits naive") || strings.Contains(got, "sub") {
				t.Errorf("kind %d, height %d, int and any: %q", kind, height, got)
			}
			if Sub(in(intType), in(strType)) || Fits(in(intType), in(strType)) || Naive(in(intType), in(strType)) || Sub(in(intType), in(variable)) {
				t.Errorf("kind %d, height %d: not told apart", kind, height)
			}
			if !Pos(in(intType), anyType) || !Neg(anyType, in(intType)) || Pos(anyType, in(intType)) || Neg(in(intType), anyType) != (kind == api.TRec) {
				t.Errorf("kind %d, height %d: any", kind, height)
			}
			if stands(in(variable), in(variable)) != inNone || stands(in(variable), anyType) != inNone || stands(anyType, in(variable)) != inNone {
				t.Errorf("kind %d, height %d: of variables", kind, height)
			}
			if height > 16 && (!isBareAny(Join(in(intType), nullType)) || !isBareAny(Join(in(intType), in(strType))) || !isBareAny(Join(in(variable), in(variable)))) {
				t.Errorf("kind %d, height %d: Join", kind, height)
			}
		}
	}
}

// P1: what has itself within is past the document's bound, and yet is gone through once.
func TestRings(t *testing.T) {
	ring := func(kind int) api.Type {
		kids := make([]api.Type, 2)
		one := api.Type{Kind: kind, Kids: kids}
		if kind == api.TRec {
			one.Names = []string{"a", "b"}
		}
		kids[0], kids[1] = one, intType
		return one
	}
	list := []api.Type{ring(api.TRec), ring(api.TRec), ring(api.TFun), ring(api.TUnion), ring(api.TVar), ring(api.TInt), anyType, record("a b", anyType, intType)}
	for i, a := range list {
		for k, b := range list {
			stands(a, b)
			if i != k && (i == 6 || k == 6) && !isBareAny(Join(a, b)) {
				t.Errorf("Join of %d and %d", i, k)
			}
		}
	}
}
