package coerce

import (
	"fmt"
	"slices"
	"strconv"
	"strings"
	"testing"

	"gradus/api"
	"gradus/parse"
	"gradus/types"
)

func leaf(kind int) api.Type { return api.Type{Kind: kind} }

func node(kind int, kids ...api.Type) api.Type { return api.Type{Kind: kind, Kids: kids} }

func function(takes, answers api.Type) api.Type { return node(api.TFun, takes, answers) }

func union(kids ...api.Type) api.Type { return node(api.TUnion, kids...) }

func record(names string, kids ...api.Type) api.Type {
	return api.Type{Kind: api.TRec, Names: strings.Fields(names), Kids: kids}
}

var (
	anyType  = leaf(api.TAny)
	nullType = leaf(api.TNull)
	intType  = leaf(api.TInt)
	strType  = leaf(api.TStr)
	variable = api.Type{Kind: api.TVar, Name: "A"}
)

// allParts is what ALL stands for in the texts of types.
const allParts = "(null | bool | int | str | {} | (any -> any))"

// typ is the normal type of a text.
func typ(s string) api.Type {
	w, d := parse.Type(strings.ReplaceAll(s, "ALL", allParts))
	n, e := types.Norm(w)
	if d.E != api.OK || e != api.OK {
		panic(fmt.Sprint(s, d, e))
	}
	return n
}

// letters are the tags, in their order, as the texts of coercions have them.
const letters = "nbisrf"

// co is the coercion of a text: `id`, `none` (noughts alone), or in `<` and `>`: labels of tags, as `nb:2`; Needs, as
// `a!2`; fields, as `a=id`; Fun, as `(id ~ id)`.
func co(s string) api.Co {
	for _, sign := range []string{"<", ">", "(", ")", "=", "~"} {
		s = strings.ReplaceAll(s, sign, " "+sign+" ")
	}
	r := &texts{strings.Fields(s)}
	c := r.co()
	if len(r.rest) > 0 {
		panic(s)
	}
	return c
}

func cos(list ...string) []api.Co {
	var l []api.Co
	for _, s := range list {
		l = append(l, co(s))
	}
	return l
}

type texts struct{ rest []string }

func (r *texts) next() string {
	s := r.rest[0]
	r.rest = r.rest[1:]
	return s
}

func (r *texts) must(s string) {
	if got := r.next(); got != s {
		panic(got + " in the place of " + s)
	}
}

func (r *texts) co() api.Co {
	c := api.Co{Tags: []int{0, 0, 0, 0, 0, 0}}
	switch s := r.next(); s {
	case "id":
		return c
	case "none":
		return api.Co{}
	case "<":
	default:
		panic(s)
	}
	for s := r.next(); s != ">"; s = r.next() {
		r.item(&c, s)
	}
	return c
}

func (r *texts) item(c *api.Co, s string) {
	if s == "(" {
		c.Fun = append(c.Fun, r.co())
		r.must("~")
		c.Fun = append(c.Fun, r.co())
		r.must(")")
		return
	}
	if tags, label, ok := strings.Cut(s, ":"); ok {
		for _, tag := range tags {
			c.Tags[strings.IndexRune(letters, tag)] = number(label)
		}
		return
	}
	if name, label, ok := strings.Cut(s, "!"); ok {
		c.Needs = append(c.Needs, api.Need{Name: name, Label: number(label)})
		return
	}
	r.must("=")
	c.Names = append(c.Names, s)
	c.Fields = append(c.Fields, r.co())
}

func number(s string) int {
	n, err := strconv.Atoi(s)
	if err != nil {
		panic(err)
	}
	return n
}

// told is for what tests tell.
func told(c api.Co) string { return begin(fmt.Sprint(c), 400) }

func begin(s string, most int) string { return strings.ToValidUTF8(s[:min(len(s), most)], "") }

func short(t api.Type) string {
	if s := types.Show(t); s != "" {
		return s
	}
	return begin(fmt.Sprint(t), 200)
}

// alike is Same by other means: it tells two apart by all that is in them, in a text.
func alike(a, b api.Co) bool { return whole(a) == whole(b) }

func whole(c api.Co) string {
	var b strings.Builder
	write(&b, c)
	return b.String()
}

func write(b *strings.Builder, c api.Co) {
	fmt.Fprintf(b, "%d%v %d%q %d", len(c.Tags), c.Tags, len(c.Names), c.Names, len(c.Needs))
	for _, need := range c.Needs {
		fmt.Fprintf(b, " %q!%d", need.Name, need.Label)
	}
	for _, list := range [][]api.Co{c.Fields, c.Fun} {
		fmt.Fprintf(b, " %d[", len(list))
		for _, one := range list {
			write(b, one)
		}
		b.WriteString("]")
	}
}

func copyCo(c api.Co) api.Co {
	d := api.Co{Tags: slices.Clone(c.Tags), Needs: slices.Clone(c.Needs), Names: slices.Clone(c.Names)}
	d.Fields, d.Fun = copyCos(c.Fields), copyCos(c.Fun)
	return d
}

func copyCos(l []api.Co) []api.Co {
	if l == nil {
		return nil
	}
	d := []api.Co{}
	for _, c := range l {
		d = append(d, copyCo(c))
	}
	return d
}

func holdCo(t *testing.T, what string, got, want api.Co) {
	t.Helper()
	if !alike(got, want) {
		t.Errorf("%s: %s, not %s", what, told(got), told(want))
	}
}

// P10.1, P10.2, P10.3: the chapter's examples.
func TestExamples(t *testing.T) {
	fun := typ("int -> int")
	holdCo(t, "Make(int, any, 2)", Make(intType, anyType, 2), Id())
	toInt := Make(anyType, intType, 2)
	holdCo(t, "Make(any, int, 2)", toInt, api.Co{Tags: []int{2, 2, 0, 2, 2, 2}})
	holdCo(t, "Make(any, int -> int, 2)", Make(anyType, fun, 2), api.Co{Tags: []int{2, 2, 2, 2, 2, 0}, Fun: []api.Co{Id(), toInt}})
	holdCo(t, "Compose", Compose(toInt, Make(anyType, strType, 4)), api.Co{Tags: []int{2, 2, 4, 2, 2, 2}})
}

// P10.1
func TestId(t *testing.T) {
	want := api.Co{Tags: []int{0, 0, 0, 0, 0, 0}}
	holdCo(t, "Id", Id(), want)
	if !May(Id()) || !Same(Id(), want) || Size(Id()) != 1 || len(Labels(Id())) != 0 {
		t.Error("Id is not what it must be")
	}
	first := Id()
	first.Tags[3] = 7
	holdCo(t, "Id, behind another one that was changed", Id(), want)
}

// nearlyId are Id but for one thing; the first ones are normal.
func nearlyId() (normal, others []api.Co) {
	for tag := range api.Tags {
		for _, label := range []int{1, -1, 2, 1 << 62} {
			c := co("id")
			c.Tags[tag] = label
			normal = append(normal, c)
		}
	}
	normal = append(normal, cos("<a!1>", "<a!-1>", "<b!1>", "<a=<i:2>>", "<b=<i:2>>", "<(<i:2> ~ id)>", "<(id ~ <i:2>)>", "<a=<a!1>>", "<(<a!1> ~ id)>")...)
	normal = append(normal, api.Co{Tags: make([]int, 6), Needs: []api.Need{{Label: 2}}})
	for n := range 20 {
		if n != api.Tags {
			others = append(others, api.Co{Tags: make([]int, n)})
		}
	}
	others = append(others, cos("<a!0>", "<a=id>", "<(id ~ id)>")...)
	for _, c := range []api.Co{
		{Names: []string{""}}, {Names: []string{"a"}}, {Names: []string{"a", "b"}}, {Fields: cos("id")}, {Fields: cos("<i:2>")}, {Fun: cos("id")}, {Fun: cos("<i:2>")},
		{Fun: cos("id", "id", "id")}, {Fun: cos("<i:2>", "id", "id")}, {Needs: make([]api.Need, 1)}, {Fields: cos("none")}, {Fun: cos("none", "none")},
	} {
		c.Tags = make([]int, 6)
		others = append(others, c)
	}
	return normal, others
}

// P10.1: what is nearly Id is not the same, and may not stand where Id may not for that.
func TestNearlyId(t *testing.T) {
	normal, others := nearlyId()
	for i, c := range append(slices.Clone(normal), others...) {
		may := i < len(normal)
		if Same(c, Id()) || Same(Id(), c) {
			t.Errorf("%s is Id", told(c))
		}
		for _, around := range []api.Co{c, {Tags: make([]int, 6), Names: []string{"a"}, Fields: []api.Co{c}}, {Tags: make([]int, 6), Fun: []api.Co{c, Id()}}, {Tags: make([]int, 6), Fun: []api.Co{Id(), c}}} {
			if May(around) != may {
				t.Errorf("May(%s) is not %v", told(around), may)
			}
		}
	}
}

// unlike are no two the same; each part has been left out or changed by itself, at the top and within.
func unlike() []api.Co {
	normal, others := nearlyId()
	list := append(cos("id"), append(normal, others...)...)
	full := co("<nbi:2 s:3 a!2 b!3 c=<i:4> d=<a!5> (<i:6> ~ <s:7>)>")
	list = append(list, full)
	change := func(do func(c *api.Co)) {
		c := copyCo(full)
		do(&c)
		list = append(list, c)
	}
	for i := range full.Tags {
		change(func(c *api.Co) { c.Tags[i] = 9 })
		change(func(c *api.Co) { c.Tags[i] = -9 })
	}
	change(func(c *api.Co) { c.Tags = c.Tags[:5] })
	change(func(c *api.Co) { c.Tags = append(c.Tags, 0) })
	change(func(c *api.Co) { c.Tags = nil })
	for i := range full.Needs {
		change(func(c *api.Co) { c.Needs[i].Label = 9 })
		change(func(c *api.Co) { c.Needs[i].Name = "x" })
		change(func(c *api.Co) { c.Needs = slices.Delete(c.Needs, i, i+1) })
		change(func(c *api.Co) { c.Names[i] = "x" })
		change(func(c *api.Co) { c.Names = slices.Delete(c.Names, i, i+1) })
		change(func(c *api.Co) { c.Fields[i].Tags[5] = 9 })
		change(func(c *api.Co) { c.Fields[i].Needs = []api.Need{{Name: "y", Label: 1}} })
		change(func(c *api.Co) { c.Fields[i] = co("id") })
		change(func(c *api.Co) { c.Fields = slices.Delete(c.Fields, i, i+1) })
		change(func(c *api.Co) { c.Fun[i].Tags[0] = 9 })
		change(func(c *api.Co) { c.Fun[i] = co("id") })
		change(func(c *api.Co) { c.Fun[i] = co("<(id ~ <i:2>)>") })
		change(func(c *api.Co) { c.Fun = slices.Delete(c.Fun, i, i+1) })
	}
	swap := func(l []api.Co) { l[0], l[1] = l[1], l[0] }
	change(func(c *api.Co) { c.Needs[0], c.Needs[1] = c.Needs[1], c.Needs[0] })
	change(func(c *api.Co) { c.Needs[0].Label, c.Needs[1].Label = 3, 2 })
	change(func(c *api.Co) { swap(c.Fields) })
	change(func(c *api.Co) { swap(c.Fun) })
	change(func(c *api.Co) { c.Names[0], c.Names[1] = "d", "c" })
	change(func(c *api.Co) { c.Fields, c.Fun = c.Fun, c.Fields })
	change(func(c *api.Co) { c.Needs = append(c.Needs, c.Needs[0]) })
	change(func(c *api.Co) { c.Fields = append(c.Fields, c.Fields[0]) })
	change(func(c *api.Co) { c.Fun = append(c.Fun, c.Fun[0]) })
	return list
}

// P10.1
func TestSame(t *testing.T) {
	list := unlike()
	list = append(list, api.Co{Tags: []int{}, Fields: cos("none")})
	deep := func(c api.Co) []api.Co {
		return []api.Co{c, {Fields: []api.Co{c}}, {Fields: []api.Co{co("id"), c}}, {Fun: []api.Co{c}}, {Fun: []api.Co{{Fun: []api.Co{c}}, co("id")}}, {Fields: []api.Co{{Fun: []api.Co{{Fields: []api.Co{c}}}}}}}
	}
	for i, a := range list {
		for k, b := range list {
			if alike(a, b) != (i == k) {
				t.Fatalf("%d and %d are to be told apart: %s", i, k, told(a))
			}
			others := deep(copyCo(b))
			for n, c := range deep(a) {
				if Same(c, others[n]) != (i == k) {
					t.Errorf("Same(%s, %s) is not %v", told(c), told(others[n]), i == k)
				}
			}
		}
	}
}

// emptied has no list that is nil.
func emptied(c api.Co) api.Co {
	c = copyCo(c)
	c.Tags, c.Needs, c.Names = append([]int{}, c.Tags...), append([]api.Need{}, c.Needs...), append([]string{}, c.Names...)
	c.Fields, c.Fun = append([]api.Co{}, c.Fields...), append([]api.Co{}, c.Fun...)
	for _, list := range [][]api.Co{c.Fields, c.Fun} {
		for i := range list {
			list[i] = emptied(list[i])
		}
	}
	return c
}

// P10.1, R6: nil and empty lists are one, in all that is asked.
func TestEmptyLists(t *testing.T) {
	for _, c := range unlike() {
		e := emptied(c)
		if !Same(c, e) || !Same(e, c) || May(c) != May(e) || Size(c) != Size(e) || !slices.Equal(Labels(c), Labels(e)) {
			t.Errorf("%s is another one with empty lists", told(c))
		}
		for _, other := range cos("id", "<a!3 b=<i:3> (id ~ <n:2>)>") {
			if !alike(Compose(c, other), Compose(e, other)) || !alike(Compose(other, c), Compose(other, e)) {
				t.Errorf("Compose of %s hangs on empty lists", told(c))
			}
		}
	}
}

// P10.4
func TestLabelsAndSize(t *testing.T) {
	for _, c := range []struct {
		c      api.Co
		labels []int
		size   int
	}{
		{co("none"), nil, 1}, {co("id"), nil, 1},
		{co("<n:5>"), []int{5}, 1}, {co("<f:-5>"), []int{-5}, 1}, {co("<n:7 b:5 i:6 s:5 r:-3 f:7>"), []int{-3, 5, 6, 7}, 1},
		{co("<a!5>"), []int{5}, 1}, {co("<a!5 b!3 c!5 d!4>"), []int{3, 4, 5}, 1}, {co("<a!0 b!3>"), []int{3}, 1},
		{co("<a=<n:5>>"), []int{5}, 2}, {co("<a=<n:5> b=<i:3> c=<a!4>>"), []int{3, 4, 5}, 4},
		{co("<(<n:5> ~ id)>"), []int{5}, 3}, {co("<(id ~ <n:5>)>"), []int{5}, 3}, {co("<(<n:5> ~ <n:3>)>"), []int{3, 5}, 3},
		{co("<(<(<n:9> ~ <n:2>)> ~ <a=<a=<b!3>>>)>"), []int{2, 3, 9}, 7},
		{co("<n:10 b:2 a!9 b!10 a=<n:8 a!7 a=<n:2>> b=<n:6> (<n:5 (<n:4> ~ <n:3>)> ~ <a!-2 (id ~ <i:10>)>)>"), []int{-2, 2, 3, 4, 5, 6, 7, 8, 9, 10}, 10},
		{co("<n:1 b:1 a!1 a=<n:1> (<n:1> ~ <a!1>)>"), []int{1}, 4},
		{co("<nbisrf:9223372036854775807 a!-9223372036854775808>"), []int{-1 << 63, 1<<63 - 1}, 1},
		// What is not normal is counted as well:
		{api.Co{Tags: []int{4}}, []int{4}, 1}, {api.Co{Tags: []int{0, 0, 0, 0, 0, 0, 0, 8, 7}}, []int{7, 8}, 1},
		{api.Co{Names: []string{"a", "b"}}, nil, 1}, {api.Co{Fields: cos("<n:2>", "id")}, []int{2}, 3}, {api.Co{Fun: cos("<n:2>")}, []int{2}, 2},
		{api.Co{Fun: cos("id", "<n:2>", "<a!3>", "none")}, []int{2, 3}, 5}, {co("<rf:2 a=<n:3> (<n:4> ~ id)>"), []int{2, 3, 4}, 4},
		{co("<a!2 a!3 b=id a=<n:4>>"), []int{2, 3, 4}, 3},
	} {
		if got := Labels(c.c); !slices.Equal(got, c.labels) {
			t.Errorf("Labels(%s) = %v, not %v", told(c.c), got, c.labels)
		}
		if got := Size(c.c); got != c.size {
			t.Errorf("Size(%s) = %d, not %d", told(c.c), got, c.size)
		}
	}
}
