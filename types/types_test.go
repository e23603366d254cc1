package types

import (
	"fmt"
	"reflect"
	"slices"
	"sort"
	"strings"
	"testing"

	"gradus/api"
)

const ownWords = "and any as bool else export false fn function if import in int is let not null or print read record str then true with"

func leaf(kind int) api.Type { return api.Type{Kind: kind} }

func node(kind int, kids ...api.Type) api.Type { return api.Type{Kind: kind, Kids: kids} }

func function(takes, answers api.Type) api.Type { return node(api.TFun, takes, answers) }

func union(kids ...api.Type) api.Type { return node(api.TUnion, kids...) }

func record(names string, kids ...api.Type) api.Type {
	return api.Type{Kind: api.TRec, Names: strings.Fields(names), Kids: kids}
}

var (
	anyType  = leaf(api.TAny)
	nullType = leaf(api.TNull)
	boolType = leaf(api.TBool)
	intType  = leaf(api.TInt)
	strType  = leaf(api.TStr)
	variable = api.Type{Kind: api.TVar, Name: "A"}
	intToInt = function(intType, intType)
)

// chain is of that height, and as big.
func chain(height int, last api.Type) api.Type {
	t := last
	for range height - 1 {
		t = record("a", t)
	}
	return t
}

// wide is of that size.
func wide(size int) api.Type {
	t := node(api.TInt)
	for range size - 1 {
		t.Kids = append(t.Kids, intType)
	}
	return t
}

// big is a record of that size, from 4 to 16 * 16 + 2, that Norm refuses for nothing else.
func big(size int) api.Type {
	t := record("")
	for i := 0; size > 1; i++ {
		inner := min(size-2, 16)
		if size-2-inner == 1 {
			inner--
		}
		kid := record("")
		for k := range inner {
			kid.Names = append(kid.Names, fmt.Sprintf("f%02d", k))
			kid.Kids = append(kid.Kids, strType)
		}
		t.Names = append(t.Names, fmt.Sprintf("g%02d", i))
		t.Kids = append(t.Kids, kid)
		size -= 1 + inner
	}
	return t
}

func copyAll(t api.Type) api.Type {
	c := api.Type{Kind: t.Kind, Name: t.Name}
	if t.Names != nil {
		c.Names = append([]string{}, t.Names...)
	}
	if t.Kids != nil {
		c.Kids = []api.Type{}
	}
	for _, kid := range t.Kids {
		c.Kids = append(c.Kids, copyAll(kid))
	}
	return c
}

// text tells all of a type, so that two are the same if their texts are.
func text(t api.Type) string {
	kids := make([]string, len(t.Kids))
	for i, kid := range t.Kids {
		kids[i] = text(kid)
	}
	return fmt.Sprintf("<%d %q %d%q %s>", t.Kind, t.Name, len(t.Names), t.Names, strings.Join(kids, " "))
}

func fullSize(t api.Type) int {
	n := 1
	for _, kid := range t.Kids {
		n += fullSize(kid)
	}
	return n
}

func fullHeight(t api.Type) int {
	n := 0
	for _, kid := range t.Kids {
		n = max(n, fullHeight(kid))
	}
	return n + 1
}

func mayBeName(s string) bool {
	if len(s) < 1 || len(s) > 32 || slices.Contains(strings.Fields(ownWords), s) {
		return false
	}
	return strings.Trim(s, "_0123456789abcdefghijklmnopqrstuvwxyzABCDEFGHIJKLMNOPQRSTUVWXYZ") == "" && !strings.Contains("0123456789", s[:1])
}

// isNormal is the chapter's section Words, line by line; the limits are not of it.
func isNormal(t api.Type) bool {
	if t.Name != "" || t.Kind != api.TRec && len(t.Names) > 0 {
		return false
	}
	tag := -1
	for _, kid := range t.Kids {
		if !isNormal(kid) {
			return false
		}
		if t.Kind == api.TUnion {
			if kid.Kind < api.TNull || kid.Kind > api.TFun || kid.Kind-1 <= tag {
				return false
			}
			tag = kid.Kind - 1
		}
	}
	for i, name := range t.Names {
		if !mayBeName(name) || i > 0 && t.Names[i-1] >= name {
			return false
		}
	}
	switch t.Kind {
	case api.TAny, api.TNull, api.TBool, api.TInt, api.TStr:
		return len(t.Kids) == 0
	case api.TRec:
		return len(t.Names) == len(t.Kids) && len(t.Kids) <= 16
	case api.TFun:
		return len(t.Kids) == 2
	case api.TUnion:
		return len(t.Kids) >= 2
	}
	return false
}

// expectedNorm is P3.2 with maps in the place of rows that are sorted.
func expectedNorm(t api.Type) (api.Type, bool) {
	if fullSize(t) > 200 || fullHeight(t) > 16 {
		return api.Type{}, false
	}
	if t.Kind >= 0 && t.Kind <= api.TStr {
		return leaf(t.Kind), true
	}
	kids := make([]api.Type, len(t.Kids))
	for i, kid := range t.Kids {
		var ok bool
		if kids[i], ok = expectedNorm(kid); !ok {
			return api.Type{}, false
		}
	}
	switch t.Kind {
	case api.TRec:
		return expectedRecord(t.Names, kids)
	case api.TFun:
		return api.Type{Kind: api.TFun, Kids: kids}, len(kids) == 2
	case api.TUnion:
		return expectedUnion(kids)
	}
	return api.Type{}, false
}

func expectedRecord(names []string, kids []api.Type) (api.Type, bool) {
	fields := map[string]api.Type{}
	for i, name := range names {
		if i < len(kids) && mayBeName(name) {
			fields[name] = kids[i]
		}
	}
	t := api.Type{Kind: api.TRec}
	for name := range fields {
		t.Names = append(t.Names, name)
	}
	sort.Strings(t.Names)
	for _, name := range t.Names {
		t.Kids = append(t.Kids, fields[name])
	}
	return t, len(fields) == len(kids) && len(fields) == len(names) && len(fields) <= 16
}

func expectedUnion(kids []api.Type) (api.Type, bool) {
	members := map[int]map[string]api.Type{}
	for _, kid := range kids {
		flat := []api.Type{kid}
		if kid.Kind == api.TUnion {
			flat = kid.Kids
		}
		for _, member := range flat {
			if members[member.Kind] == nil {
				members[member.Kind] = map[string]api.Type{}
			}
			members[member.Kind][text(member)] = member
		}
	}
	t := api.Type{Kind: api.TUnion}
	for kind := range api.TUnion {
		for _, member := range members[kind] {
			t.Kids = append(t.Kids, member)
		}
		if len(members[kind]) > 1 {
			return api.Type{}, false
		}
	}
	if len(t.Kids) == 0 || len(members[api.TAny]) > 0 {
		return api.Type{}, false
	}
	if len(t.Kids) == 1 {
		return t.Kids[0], true
	}
	return t, true
}

// reader reads what Show has written, by a grammar of its own.
type reader struct{ rest string }

func (r *reader) take(s string) bool {
	rest, ok := strings.CutPrefix(r.rest, s)
	r.rest = rest
	return ok
}

func (r *reader) whole() (api.Type, bool) {
	first, ok := r.alone()
	if !ok {
		return first, false
	}
	members := []api.Type{first}
	for r.take(" | ") {
		next, ok := r.alone()
		if !ok {
			return next, false
		}
		members = append(members, next)
	}
	t := first
	if len(members) > 1 {
		t = union(members...)
	}
	if r.take(" -> ") {
		answers, ok := r.whole()
		return function(t, answers), ok
	}
	return t, true
}

func (r *reader) alone() (api.Type, bool) {
	for kind, name := range []string{"any", "null", "bool", "int", "str"} {
		if r.take(name) {
			return leaf(kind), true
		}
	}
	if r.take("(") {
		t, ok := r.whole()
		return t, ok && t.Kind == api.TFun && r.take(")")
	}
	if !r.take("{") {
		return api.Type{}, false
	}
	t := leaf(api.TRec)
	for !r.take("}") {
		if len(t.Names) > 0 && !r.take(", ") {
			return t, false
		}
		at := strings.Index(r.rest, ": ")
		if at < 0 {
			return t, false
		}
		t.Names = append(t.Names, r.rest[:at])
		r.rest = r.rest[at+2:]
		kid, ok := r.whole()
		if !ok {
			return t, false
		}
		t.Kids = append(t.Kids, kid)
	}
	return t, true
}

// hold holds all calls against the chapter at one type.
func hold(t *testing.T, in api.Type) {
	t.Helper()
	before := copyAll(in)
	if got, want := Size(in), min(fullSize(in), 201); got != want {
		t.Errorf("Size(%s) = %d, not %d", text(in), got, want)
	}
	if got, want := Height(in), min(fullHeight(in), 17); got != want {
		t.Errorf("Height(%s) = %d, not %d", text(in), got, want)
	}
	holdNorm(t, in)
	holdShow(t, in)
	holdTag(t, in)
	if !Same(in, before) || !Same(before, in) {
		t.Errorf("%s is not the same as its copy", text(in))
	}
	if !reflect.DeepEqual(in, before) {
		t.Errorf("%s was handed in, and is %s", text(before), text(in))
	}
}

func holdNorm(t *testing.T, in api.Type) {
	t.Helper()
	got, e := Norm(in)
	want, ok := expectedNorm(in)
	if !ok {
		if e != api.ErrType || !reflect.DeepEqual(got, api.Type{}) {
			t.Errorf("Norm(%s) = %s, %d, not an error", text(in), text(got), e)
		}
		return
	}
	if e != api.OK || text(got) != text(want) || !isNormal(got) {
		t.Errorf("Norm(%s) = %s, %d, not %s", text(in), text(got), e, text(want))
	}
	if again, e := Norm(got); e != api.OK || text(again) != text(got) {
		t.Errorf("Norm again of %s = %s, %d", text(got), text(again), e)
	}
	if Show(got) == "" {
		t.Errorf("%s is normal, and not shown", text(got))
	}
	if isNormal(in) != Same(in, got) {
		t.Errorf("Same(%s, %s) = %v", text(in), text(got), Same(in, got))
	}
}

func holdShow(t *testing.T, in api.Type) {
	t.Helper()
	shown := Show(in)
	if !isNormal(in) || fullSize(in) > 200 || fullHeight(in) > 16 {
		if shown != "" {
			t.Errorf("Show(%s) = %q, not nothing", text(in), shown)
		}
		return
	}
	r := reader{shown}
	back, ok := r.whole()
	if !ok || r.rest != "" || text(back) != text(in) {
		t.Errorf("Show(%s) = %q, which reads %s", text(in), shown, text(back))
	}
}

func holdTag(t *testing.T, in api.Type) {
	t.Helper()
	own := -1
	if in.Kind >= 1 && in.Kind <= 6 {
		own = in.Kind - 1
	}
	if got := Tag(in); got != own {
		t.Errorf("Tag(%s) = %d, not %d", text(in), got, own)
	}
	for tag := -3; tag < 10; tag++ {
		var want api.Type
		there := false
		if tag >= 0 && tag == own {
			want, there = in, true
		}
		for _, kid := range in.Kids {
			if in.Kind == api.TUnion && !there && tag >= 0 && tag < 6 && kid.Kind == tag+1 {
				want, there = kid, true
			}
		}
		got, is := Member(in, tag)
		if is != there || text(got) != text(want) {
			t.Errorf("Member(%s, %d) = %s, %v", text(in), tag, text(got), is)
		}
	}
}

// P3.1
func TestSizeAndHeight(t *testing.T) {
	for _, c := range []struct {
		in           api.Type
		size, height int
	}{
		{anyType, 1, 1},
		{variable, 1, 1},
		{leaf(-5), 1, 1},
		{api.Type{Kind: api.TInt, Name: "x", Names: []string{"a", "b"}}, 1, 1},
		{intToInt, 3, 2},
		{function(intToInt, nullType), 5, 3},
		{function(nullType, intToInt), 5, 3},
		{record(""), 1, 1},
		{record("a b c", intType, intToInt, strType), 6, 3},
		{union(nullType, intType, strType), 4, 2},
		{node(77, variable), 2, 2},
		{chain(15, intType), 15, 15},
		{chain(16, intType), 16, 16},
		{chain(17, intType), 17, 17},
		{chain(18, intType), 18, 17},
		{chain(200, intType), 200, 17},
		{chain(201, intType), 201, 17},
		{chain(60000, intType), 201, 17},
		{wide(199), 199, 2},
		{wide(200), 200, 2},
		{wide(201), 201, 2},
		{wide(202), 201, 2},
		{wide(100000), 201, 2},
		{big(200), 200, 3},
		{big(201), 201, 3},
		{big(240), 201, 3},
		{node(api.TInt, wide(300), chain(12, intType)), 201, 13},
		{node(api.TInt, wide(300), chain(40, intType)), 201, 17},
		{node(api.TInt, wide(100), wide(100)), 201, 3},
		{node(api.TInt, wide(100), wide(99)), 200, 3},
	} {
		if got := Size(c.in); got != c.size {
			t.Errorf("size %d, not %d", got, c.size)
		}
		if got := Height(c.in); got != c.height {
			t.Errorf("height %d, not %d", got, c.height)
		}
	}
}

// P3.2: the limits, which hold ahead of all else.
func TestNormLimits(t *testing.T) {
	tall := func(height int) api.Type { return chain(height, intType) }
	for _, c := range []struct {
		name string
		in   api.Type
		e    api.Errno
	}{
		{"height 16", tall(16), api.OK},
		{"height 17", tall(17), api.ErrType},
		{"height 18", tall(18), api.ErrType},
		{"height 5000", tall(5000), api.ErrType},
		{"height 17 by a function", function(intType, tall(16)), api.ErrType},
		{"height 16 by a function", function(tall(15), intType), api.OK},
		{"height 17 by a union of one", union(tall(16)), api.ErrType},
		{"height 17 below a base type", node(api.TStr, tall(16)), api.ErrType},
		{"height 16 below a base type", node(api.TStr, tall(15)), api.OK},
		{"size 200", big(200), api.OK},
		{"size 201", big(201), api.ErrType},
		{"size 202", big(202), api.ErrType},
		{"size 258", big(258), api.ErrType},
		{"size 200 of a base type", wide(200), api.OK},
		{"size 201 of a base type", wide(201), api.ErrType},
		{"size 100000 of a base type", wide(100000), api.ErrType},
	} {
		if _, e := Norm(c.in); e != c.e {
			t.Errorf("%s: %d, not %d", c.name, e, c.e)
		}
		hold(t, c.in)
	}
}

// P3.2
func TestNormRecord(t *testing.T) {
	many := func(n int) api.Type {
		r := record("")
		for i := range n {
			r.Names = append(r.Names, fmt.Sprint("f", 99-i))
			r.Kids = append(r.Kids, intType)
		}
		return r
	}
	long := strings.Repeat("n", 32)
	for _, c := range []struct {
		in    api.Type
		shown string
	}{
		{record(""), "{}"},
		{api.Type{Kind: api.TRec, Names: []string{}, Kids: []api.Type{}}, "{}"},
		{record("b a", intType, function(intType, anyType)), "{a: int -> any, b: int}"},
		{record("a b", intType, strType), "{a: int, b: str}"},
		{record("a1 a _ Z a_ aa a0", intType, strType, anyType, nullType, boolType, intToInt, record("")), "{Z: null, _: any, a: str, a0: {}, a1: int, a_: bool, aa: int -> int}"},
		{api.Type{Kind: api.TRec, Name: "R", Names: []string{"a"}, Kids: []api.Type{{Kind: api.TInt, Name: "x"}}}, "{a: int}"},
		{record("a", union(strType, nullType)), "{a: null | str}"},
		{record("a", record("c b", intType, strType)), "{a: {b: str, c: int}}"},
		{many(16), "{f84: int, f85: int, f86: int, f87: int, f88: int, f89: int, f90: int, f91: int, f92: int, f93: int, f94: int, f95: int, f96: int, f97: int, f98: int, f99: int}"},
		{many(17), ""},
		{many(40), ""},
		{record(long, intType), "{" + long + ": int}"},
		{record(long+"n", intType), ""},
		{record("a a", intType, intType), ""},
		{record("a b a", intType, strType, boolType), ""},
		{record("b a a", intType, strType, strType), ""},
		{record("a b", intType), ""},
		{record("a", intType, strType), ""},
		{record("", intType), ""},
		{record("a"), ""},
		{record("1a", intType), ""},
		{record("a-b", intType), ""},
		{record("é", intType), ""},
		{api.Type{Kind: api.TRec, Names: []string{""}, Kids: []api.Type{intType}}, ""},
		{record("A", variable), ""},
		{record("a b", intType, record("c c", intType, intType)), ""},
	} {
		holdShown(t, c.in, c.shown)
	}
	for _, own := range strings.Fields(ownWords) {
		holdShown(t, record(own, intType), "")
		holdShown(t, record(own+"s", intType), "{"+own+"s: int}")
	}
}

// holdShown: how the Norm is shown; nothing, if there is none.
func holdShown(t *testing.T, in api.Type, shown string) {
	t.Helper()
	hold(t, in)
	normal, e := Norm(in)
	if (e == api.OK) != (shown != "") {
		t.Errorf("Norm(%s): %d", text(in), e)
	}
	if e == api.OK && Show(normal) != shown {
		t.Errorf("%s is shown as %q, not %q", text(in), Show(normal), shown)
	}
}

// P3.2
func TestNormOthers(t *testing.T) {
	one, other := record("a", intType), record("a", strType)
	named := api.Type{Kind: api.TFun, Name: "f", Names: []string{"x", "y", "z"}, Kids: []api.Type{intType, strType}}
	for _, c := range []struct {
		in    api.Type
		shown string
	}{
		{anyType, "any"}, {nullType, "null"}, {boolType, "bool"}, {intType, "int"}, {strType, "str"},
		{api.Type{Kind: api.TAny, Name: "x"}, "any"},
		{api.Type{Kind: api.TNull, Names: []string{"x", ""}}, "null"},
		{node(api.TStr, variable, node(55)), "str"},
		{variable, ""}, {leaf(api.TVar), ""}, {leaf(-1), ""}, {leaf(9), ""}, {leaf(1 << 40), ""}, {leaf(-1 << 63), ""},
		{intToInt, "int -> int"},
		{named, "int -> str"},
		{function(intToInt, nullType), "(int -> int) -> null"},
		{function(nullType, intToInt), "null -> int -> int"},
		{function(union(intType, nullType), union(intToInt, intType)), "null | int -> int | (int -> int)"},
		{node(api.TFun), ""}, {node(api.TFun, intType), ""}, {node(api.TFun, intType, intType, intType), ""},
		{function(variable, intType), ""}, {function(intType, variable), ""},
		{union(strType, union(nullType, intType)), "null | int | str"},
		{union(intToInt, record("b a", intType, strType), strType, intType, boolType, nullType), "null | bool | int | str | {a: str, b: int} | (int -> int)"},
		{api.Type{Kind: api.TUnion, Name: "U", Names: []string{"n"}, Kids: []api.Type{intType, nullType}}, "null | int"},
		{union(), ""}, {api.Type{Kind: api.TUnion, Kids: []api.Type{}}, ""},
		{union(intType), "int"}, {union(union(union(intType))), "int"}, {union(intToInt), "int -> int"},
		{union(intType, intType, intType), "int"},
		{union(union(intType, strType), union(strType, intType)), "int | str"},
		{union(one, one), "{a: int}"}, {union(one, other), ""}, {union(one, record("b", intType)), ""}, {union(one, record("")), ""},
		{union(record("b a", intType, strType), record("a b", strType, intType)), "{a: str, b: int}"},
		{union(intToInt, intToInt, nullType), "null | (int -> int)"}, {union(intToInt, function(intType, anyType)), ""},
		{union(union(one, nullType), union(other, nullType)), ""}, {union(union(one, nullType), strType, one), "null | str | {a: int}"},
		{union(function(union(intType, nullType), intType), function(union(nullType, intType), intType)), "null | int -> int"},
		{union(anyType), ""}, {union(anyType, intType), ""}, {union(intType, anyType), ""}, {union(intType, union(nullType, anyType)), ""},
		{union(anyType, anyType), ""}, {union(intType, variable), ""}, {union(variable), ""}, {union(union()), ""}, {union(intType, union()), ""},
		{union(nullType, record("a", anyType)), "null | {a: any}"},
	} {
		holdShown(t, c.in, c.shown)
	}
}

// P3.3
func TestSame(t *testing.T) {
	bare := record("a b", intType, function(strType, union(nullType, intType)))
	changes := []func(*api.Type){
		func(x *api.Type) { x.Kind = api.TUnion },
		func(x *api.Type) { x.Name = "n" },
		func(x *api.Type) { x.Names[1] = "c" },
		func(x *api.Type) { x.Names = x.Names[:1] },
		func(x *api.Type) { x.Names = append(x.Names, "c") },
		func(x *api.Type) { x.Names[0], x.Names[1] = x.Names[1], x.Names[0] },
		func(x *api.Type) { x.Kids = x.Kids[:1] },
		func(x *api.Type) { x.Kids = append(x.Kids, intType) },
		func(x *api.Type) { x.Kids[0], x.Kids[1] = x.Kids[1], x.Kids[0] },
		func(x *api.Type) { x.Kids[0].Kind = api.TVar },
		func(x *api.Type) { x.Kids[0].Name = "n" },
		func(x *api.Type) { x.Kids[0].Names = []string{""} },
		func(x *api.Type) { x.Kids[0].Kids = []api.Type{{}} },
		func(x *api.Type) { x.Kids[1].Kids[1].Kids[0].Kind = api.TBool },
		func(x *api.Type) { x.Kids[1].Kids[1].Kids[1].Name = "n" },
		func(x *api.Type) { x.Kids[1].Kids[1].Kids[1].Names = []string{"n"} },
	}
	for i, change := range changes {
		other := copyAll(bare)
		if !Same(bare, other) {
			t.Error("a copy is not the same")
		}
		change(&other)
		if Same(bare, other) || Same(other, bare) {
			t.Errorf("change %d is not seen", i)
		}
	}
	filled := api.Type{Kind: 70, Names: []string{}, Kids: []api.Type{{Kind: api.TVar, Name: "A", Names: []string{}, Kids: []api.Type{}}}}
	if !Same(filled, node(70, variable)) || !Same(node(70, variable), filled) {
		t.Error("nil is not as empty")
	}
	if !Same(chain(60000, intType), chain(60000, intType)) || Same(chain(60000, intType), chain(60000, strType)) {
		t.Error("of far more than the limits")
	}
}

// P1, P3.1, P3.3: lists that stand in many places, or within themselves, are gone through once.
func TestSharedKids(t *testing.T) {
	braid := func(height, width int, last api.Type) api.Type {
		for range height - 1 {
			kids := make([]api.Type, width)
			for i := range kids {
				kids[i] = last
			}
			last = node(api.TFun, kids...)
		}
		return last
	}
	for height := 10; height < 70; height++ {
		for _, width := range []int{2, 16} {
			b := braid(height, width, intType)
			if Height(b) != min(height, 17) || Size(b) != 201 {
				t.Errorf("height %d, width %d: %d, %d", height, width, Height(b), Size(b))
			}
			if _, e := Norm(b); e != api.ErrType || Show(b) != "" || Tag(b) != api.TagFun {
				t.Error("a braid is refused")
			}
			if !Same(b, braid(height, width, intType)) || Same(b, braid(height, width, strType)) || Same(b, braid(height+1, width, intType)) {
				t.Errorf("height %d, width %d: not told apart", height, width)
			}
		}
	}
	round := make([]api.Type, 2)
	round[0], round[1] = record("a", round...), function(round[0], intType)
	ring := node(api.TUnion, round...)
	if Height(ring) != 17 || Size(ring) != 201 || Show(ring) != "" || !Same(ring, ring) || Same(ring, ring.Kids[1]) {
		t.Error("a ring")
	}
}

// P3.3: kids that begin at one place are not the same if there are more of one.
func TestSameOfPieces(t *testing.T) {
	row := []api.Type{intType, strType, intType, strType, boolType}
	a := node(api.TUnion, node(api.TUnion, row[0:2]...), node(api.TUnion, row[0:3]...))
	b := node(api.TUnion, node(api.TUnion, row[2:4]...), node(api.TUnion, row[2:5]...))
	if Same(a, b) || Same(b, a) || !Same(a.Kids[0], b.Kids[0]) || !Same(a, a) {
		t.Error("pieces of one row")
	}
	high := node(api.TUnion, node(api.TUnion, node(9), node(9, intToInt)))
	high.Kids = append(high.Kids, node(api.TUnion, high.Kids[0].Kids[:1]...))
	if Height(high) != 5 || Height(node(1, high.Kids[1], high.Kids[0])) != 5 {
		t.Error("a longer list at one place", Height(high))
	}
}

// P3.4
func TestShow(t *testing.T) {
	for _, c := range []struct {
		in   api.Type
		want string
	}{
		{anyType, "any"}, {nullType, "null"}, {boolType, "bool"}, {intType, "int"}, {strType, "str"},
		{record(""), "{}"}, {record("x", anyType), "{x: any}"}, {record("x y", intToInt, union(nullType, intToInt)), "{x: int -> int, y: null | (int -> int)}"},
		{function(intToInt, intToInt), "(int -> int) -> int -> int"},
		{function(function(intToInt, strType), intType), "((int -> int) -> str) -> int"},
		{function(record("f", intToInt), intType), "{f: int -> int} -> int"},
		{function(union(nullType, strType), strType), "null | str -> str"},
		{union(nullType, function(intToInt, strType)), "null | ((int -> int) -> str)"},
		{union(record("a", intType), intToInt), "{a: int} | (int -> int)"},
		// Not normal:
		{api.Type{Kind: api.TInt, Name: "x"}, ""}, {api.Type{Kind: api.TInt, Names: []string{"x"}}, ""}, {node(api.TInt, intType), ""},
		{api.Type{Kind: api.TRec, Name: "x"}, ""}, {record("b a", intType, intType), ""}, {record("a a", intType, intType), ""}, {record("a", variable), ""},
		{api.Type{Kind: api.TFun, Name: "x", Kids: intToInt.Kids}, ""}, {api.Type{Kind: api.TFun, Names: []string{"a", "b"}, Kids: intToInt.Kids}, ""},
		{function(api.Type{Kind: api.TInt, Name: "x"}, intType), ""}, {node(api.TFun, intType), ""},
		{union(), ""}, {union(intType), ""}, {union(intType, nullType), ""}, {union(intType, intType), ""}, {union(nullType, union(intType, strType)), ""},
		{api.Type{Kind: api.TUnion, Name: "x", Kids: []api.Type{nullType, intType}}, ""}, {api.Type{Kind: api.TUnion, Names: []string{"x"}, Kids: []api.Type{nullType, intType}}, ""},
		{variable, ""}, {leaf(-1), ""}, {leaf(9), ""},
		// Normal, but beyond the limits:
		{chain(17, intType), ""}, {big(201), ""},
		// Lists that are empty are as none:
		{api.Type{Kind: api.TStr, Names: []string{}, Kids: []api.Type{}}, "str"},
		{api.Type{Kind: api.TFun, Names: []string{}, Kids: intToInt.Kids}, "int -> int"},
		{chain(16, intType), strings.Repeat("{a: ", 15) + "int" + strings.Repeat("}", 15)},
	} {
		if got := Show(c.in); got != c.want {
			t.Errorf("Show(%s) = %q, not %q", text(c.in), got, c.want)
		}
		hold(t, c.in)
	}
	if Show(big(200)) == "" {
		t.Error("size 200 is not shown")
	}
}

// P3.5
func TestTagAndMember(t *testing.T) {
	all := union(nullType, boolType, intType, strType, record("a", intType), intToInt)
	tags := []int{-1, api.TagNull, api.TagBool, api.TagInt, api.TagStr, api.TagRec, api.TagFun, -1, -1, -1}
	for kind, tag := range tags {
		for _, in := range []api.Type{leaf(kind), {Kind: kind, Name: "x", Names: []string{"y"}, Kids: []api.Type{variable}}} {
			if got := Tag(in); got != tag {
				t.Errorf("Tag of kind %d: %d", kind, got)
			}
			hold(t, in)
		}
	}
	for tag, member := range all.Kids {
		if got, ok := Member(all, tag); !ok || text(got) != text(member) {
			t.Errorf("Member of the tag %d: %s, %v", tag, text(got), ok)
		}
		if got, ok := Member(member, tag); !ok || text(got) != text(member) {
			t.Errorf("Member of one of the tag %d: %s, %v", tag, text(got), ok)
		}
		if got, ok := Member(member, (tag+1)%6); ok || !reflect.DeepEqual(got, api.Type{}) {
			t.Errorf("Member of one that is not of the tag: %s", text(got))
		}
		rest := union(slices.Delete(slices.Clone(all.Kids), tag, tag+1)...)
		if got, ok := Member(rest, tag); ok || !reflect.DeepEqual(got, api.Type{}) {
			t.Errorf("Member that there is not: %s", text(got))
		}
	}
	for _, in := range []api.Type{all, anyType, variable, union(), union(anyType, variable, union(intType)), leaf(-1), leaf(0), leaf(12), intType} {
		for _, tag := range []int{-1, -2, 6, 7, 1 << 40, -1 << 63} {
			if got, ok := Member(in, tag); ok || !reflect.DeepEqual(got, api.Type{}) {
				t.Errorf("Member(%s, %d) = %s, %v", text(in), tag, text(got), ok)
			}
		}
		hold(t, in)
	}
}

// spoil changes all that a type has in it, by its lists.
func spoil(t api.Type) {
	for i := range t.Names {
		t.Names[i] = "spoilt"
	}
	for i := range t.Kids {
		spoil(t.Kids[i])
		t.Kids[i] = api.Type{Kind: -99, Name: "spoilt"}
	}
}

// R3
func TestAnswersAreOwn(t *testing.T) {
	inner := record("a b", intToInt, union(nullType, record("c", intType)))
	in := union(function(inner, inner), inner, nullType)
	for _, ask := range []func(api.Type) api.Type{
		func(x api.Type) api.Type { n, _ := Norm(x); return n },
		func(x api.Type) api.Type { n, _ := Norm(union(x, x)); return n },
		func(x api.Type) api.Type { n, _ := Norm(x.Kids[1]); return n },
		func(x api.Type) api.Type { m, _ := Member(x, api.TagFun); return m },
		func(x api.Type) api.Type { m, _ := Member(x, api.TagRec); return m },
		func(x api.Type) api.Type { m, _ := Member(x.Kids[0], api.TagFun); return m },
	} {
		given := copyAll(in)
		answer := ask(given)
		kept := text(answer)
		spoil(given)
		if text(answer) != kept {
			t.Errorf("the answer has become %s", text(answer))
		}
		given = copyAll(in)
		spoil(ask(given))
		if text(given) != text(in) {
			t.Errorf("what was handed in has become %s", text(given))
		}
	}
	// What is shared by what is handed in is not shared in the answer.
	twice, _ := Norm(function(inner, inner))
	spoil(twice.Kids[0])
	member, _ := Member(function(inner, inner), api.TagFun)
	spoil(member.Kids[0])
	if text(twice.Kids[1]) != text(inner) || text(member.Kids[1]) != text(inner) {
		t.Error("two lists of one answer share something")
	}
}

type chance uint64

func (c *chance) below(n int) int {
	*c ^= *c << 13
	*c ^= *c >> 7
	*c ^= *c << 17
	return int(uint64(*c) % uint64(n))
}

func (c *chance) name() string {
	names := []string{"a", "b", "c", "aa", "a0", "A", "_", "z9", "fn", "1", "", "é", "a b"}
	if c.below(20) > 0 {
		return names[c.below(8)]
	}
	return names[c.below(len(names))]
}

// anyOf is any type at all, most often one that is nearly right.
func (c *chance) anyOf(height int) api.Type {
	t := leaf(c.below(8))
	if height <= 1 {
		t.Kind = c.below(5)
	}
	if c.below(40) == 0 {
		t.Kind = c.below(13) - 2
	}
	count := 0
	switch t.Kind {
	case api.TRec:
		count = c.below(4)
	case api.TFun:
		count = 2
	case api.TUnion:
		count = 1 + c.below(3)
	}
	if c.below(40) == 0 {
		count = c.below(4)
	}
	for range count {
		t.Kids = append(t.Kids, c.anyOf(height-1))
	}
	if t.Kind == api.TRec || c.below(40) == 0 {
		for range count {
			t.Names = append(t.Names, c.name())
		}
	}
	if c.below(40) == 0 {
		t.Names = append(t.Names, c.name())
	}
	if c.below(40) == 0 {
		t.Name = c.name()
	}
	return t
}

// P3.1 to P3.6, at many types.
func TestManyTypes(t *testing.T) {
	c := chance(88172645463325252)
	good, normal := 0, 0
	shown := map[string]string{}
	var kept []api.Type
	for range 60000 {
		in := c.anyOf(1 + c.below(5))
		hold(t, in)
		n, e := Norm(in)
		if e != api.OK {
			continue
		}
		good++
		if isNormal(in) {
			normal++
		}
		s := Show(n)
		if other, ok := shown[s]; ok && other != text(n) {
			t.Errorf("%q shows %s and %s", s, other, text(n))
		}
		shown[s] = text(n)
		if len(kept) < 300 {
			kept = append(kept, in, n)
		}
	}
	if good < 10000 || normal < 5000 || len(shown) < 2000 {
		t.Errorf("too few that are right: %d, %d, %d", good, normal, len(shown))
	}
	for _, a := range kept {
		for _, b := range kept {
			if Same(a, b) != (text(a) == text(b)) {
				t.Errorf("Same(%s, %s) = %v", text(a), text(b), Same(a, b))
			}
		}
	}
}

// P3.2 to P3.6: unions, functions and records of all pairs of small types.
func TestAllSmallTypes(t *testing.T) {
	var leaves []api.Type
	for kind := -1; kind <= 9; kind++ {
		leaves = append(leaves, leaf(kind), api.Type{Kind: kind, Name: "n"})
	}
	small := slices.Clone(leaves)
	for _, a := range leaves {
		small = append(small, union(a), record("a", a), node(api.TFun, a), node(a.Kind, strType))
		for kind := api.TNull; kind <= api.TStr; kind++ {
			b := leaf(kind)
			small = append(small, union(a, b), function(a, b), function(b, a), record("b a", a, b), record("a b", a, b), record("a a", a, b))
		}
	}
	for i, a := range small {
		hold(t, a)
		for k := i % 29; k < len(small); k += 29 {
			b := small[k]
			hold(t, union(a, b))
			hold(t, function(a, b))
			hold(t, record("b a", a, b))
		}
	}
}
