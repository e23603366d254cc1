package coerce

import (
	"fmt"
	"strings"
	"testing"

	"gradus/api"
)

// around are ways in which a coercion that is not Id stands within another one; all that is around it is normal.
func around(c api.Co) []api.Co {
	six := func() []int { return make([]int, 6) }
	field := func(c api.Co) api.Co { return api.Co{Tags: six(), Names: []string{"a"}, Fields: []api.Co{c}} }
	takes := func(c api.Co) api.Co { return api.Co{Tags: six(), Fun: []api.Co{c, Id()}} }
	answers := func(c api.Co) api.Co { return api.Co{Tags: six(), Fun: []api.Co{co("<i:3>"), c}} }
	last := api.Co{Tags: []int{2, 3, 4, 5, 0, 6}, Needs: []api.Need{{Name: "x", Label: 2}}, Names: []string{"a", "b", "c"}, Fields: []api.Co{co("<n:2>"), co("<b:2>"), c}}
	return []api.Co{
		c, field(c), takes(c), answers(c), last, field(field(c)), takes(takes(c)), answers(answers(c)), field(takes(answers(c))), answers(field(takes(c))),
		takes(field(field(answers(c)))), field(last), takes(last), {Tags: six(), Names: []string{"", "b"}, Fields: []api.Co{c, c}}, {Tags: six(), Fun: []api.Co{c, c}},
	}
}

func holdMay(t *testing.T, c api.Co, want bool) {
	t.Helper()
	for i, in := range around(c) {
		if May(in) != want {
			t.Errorf("May is not %v, in the place %d: %s", want, i, told(in))
		}
	}
}

// P10.1: what is normal.
func TestNormal(t *testing.T) {
	for _, s := range []string{
		"<n:1>", "<nbisrf:1>", "<nbisrf:-1>", "<n:1 b:2 i:3 s:4 r:5 f:6>", "<a!1>", "<a!1 b!1>", "<b!1 a!1>", "<a!-1>",
		// Needs may stand where the tag of records is blamed; Names where that of functions is; Fun where that of records is:
		"<r:2 a!1>", "<f:2 a=<n:2>>", "<r:2 (id ~ <n:2>)>", "<nbisr:2 (id ~ <n:2>)>", "<nbisf:2 a!2 a=<n:2>>",
		"<a=<n:1>>", "<a=<n:1> b=<n:1>>", "<a=<n:1> aa=<n:1> b=<n:1>>", "<B=<n:1> a=<n:1>>", "<a10=<n:1> a9=<n:1>>",
		"<(<n:1> ~ id)>", "<(id ~ <n:1>)>", "<(<n:1> ~ <n:1>)>", "<a!1 a=<n:1>>", "<b!1 a=<n:1>>", "<a=<a=<a!1>>>", "<(<(<a!1> ~ id)> ~ id)>",
	} {
		holdMay(t, co(s), true)
	}
	if !May(co("id")) {
		t.Error("Id is not normal")
	}
	// Names and Needs are any strings at all, by their bytes.
	for _, names := range [][]string{{""}, {"", "a"}, {"1 2", "let"}, {"Z", "a", "é"}, {"\x00", "\x00\x00", "\xff"}, {"é", "日本"}, {"a", "a\x00", "ab"}, {strings.Repeat("n", 100)}} {
		c := api.Co{Tags: make([]int, 6), Names: names}
		for i, name := range names {
			c.Fields = append(c.Fields, co("<n:2>"))
			c.Needs = append([]api.Need{{Name: name, Label: i + 1}}, c.Needs...)
		}
		holdMay(t, c, true)
	}
}

// P10.1: each condition of 'normal', broken by itself.
func TestNotNormal(t *testing.T) {
	for _, s := range []string{
		"none", "<a!1 a!1>", "<a!1 a!2>", "<a!1 b!1 a!2>", "<b!1 a!1 c!2 a!1>", "<a!0>", "<a!0 b!1>", "<a!1 b!2 c!0>", "<r:1 a!0>", "<r:1 a!1 a!2>",
		"<b=<n:1> a=<n:1>>", "<a=<n:1> a=<n:1>>", "<a=<n:1> a=<n:2>>", "<a=<n:1> c=<n:1> b=<n:1>>", "<a=<n:1> b=<n:1> b=<n:2>>", "<a=<n:1> B=<n:1>>", "<a9=<n:1> a10=<n:1>>", "<b=<n:1> a=<n:1> c=<n:1>>",
		"<a=id>", "<a=<n:1> b=id>", "<a=id b=<n:1>>", "<a=none>", "<a=<n:1> b=none c=<n:1>>", "<a=<a!0>>", "<n:3 a=<a=id>>",
		"<(id ~ id)>", "<n:3 (id ~ id)>", "<(none ~ <n:1>)>", "<(<n:1> ~ none)>", "<(none ~ none)>", "<(none ~ id)>", "<(id ~ <a!0>)>", "<(<a!0> ~ id)>", "<(<(id ~ id)> ~ <n:1>)>",
		"<r:1 a=<n:1>>", "<r:-1 a=<n:1> b=<n:1>>", "<r:1 a!1 a=<n:1>>", "<f:1 (id ~ <n:1>)>", "<f:-1 (<n:1> ~ id)>", "<f:1 (<n:1> ~ <n:1>)>", "<rf:2 a=<n:1> (<n:1> ~ id)>",
	} {
		holdMay(t, co(s), false)
	}
	six := make([]int, 6)
	for n := range 13 {
		if n != 6 {
			holdMay(t, api.Co{Tags: make([]int, n)}, false)
			tags := make([]int, n)
			for i := range tags {
				tags[i] = 2
			}
			holdMay(t, api.Co{Tags: tags}, false)
			holdMay(t, api.Co{Tags: tags, Needs: []api.Need{{Name: "a", Label: 1}}, Names: []string{"a"}, Fields: cos("<n:2>"), Fun: cos("<n:2>", "id")}, false)
		}
	}
	for _, c := range []api.Co{
		{Tags: six, Names: []string{"a"}}, {Tags: six, Names: []string{"a", "b"}, Fields: cos("<n:1>")}, {Tags: six, Fields: cos("<n:1>")}, {Tags: six, Names: []string{"a"}, Fields: cos("<n:1>", "<n:1>")},
		{Tags: []int{0, 0, 0, 0, 2, 0}, Names: []string{"a"}}, {Tags: []int{0, 0, 0, 0, 2, 0}, Fields: cos("<n:1>")},
		{Tags: six, Fun: cos("<n:1>")}, {Tags: six, Fun: cos("<n:1>", "<n:1>", "<n:1>")}, {Tags: six, Fun: cos("id")}, {Tags: six, Fun: cos("id", "id", "id")}, {Tags: six, Fun: cos("<n:1>", "id", "<n:1>", "id")},
		{Tags: []int{0, 0, 0, 0, 0, 2}, Fun: cos("<n:1>")}, {Tags: []int{0, 0, 0, 0, 0, 2}, Fun: cos("id", "id")},
		{Tags: six, Names: []string{"é", "a"}, Fields: cos("<n:1>", "<n:1>")}, {Tags: six, Names: []string{"\xff", "\x00"}, Fields: cos("<n:1>", "<n:1>")}, {Tags: six, Names: []string{"a", ""}, Fields: cos("<n:1>", "<n:1>")},
		{Tags: six, Names: []string{"", ""}, Fields: cos("<n:1>", "<n:1>")}, {Tags: six, Needs: []api.Need{{Name: "", Label: 1}, {Name: "", Label: 1}}}, {Tags: six, Needs: []api.Need{{}}},
	} {
		holdMay(t, c, false)
	}
}

// P10.1: of many Needs and Names just one pair is wrong.
func TestManyNames(t *testing.T) {
	const many = 3000
	c := api.Co{Tags: make([]int, 6)}
	for i := range many {
		name := fmt.Sprintf("f%04d", i)
		c.Names = append(c.Names, name)
		c.Fields = append(c.Fields, co("<n:2>"))
		c.Needs = append(c.Needs, api.Need{Name: name, Label: 2})
	}
	if !May(c) || Size(c) != many+1 {
		t.Error("many are not normal")
	}
	for _, at := range []int{0, 1, many / 2, many - 1} {
		wrong := func(do func(c *api.Co)) {
			d := copyCo(c)
			do(&d)
			if May(d) {
				t.Errorf("%d is not found", at)
			}
		}
		wrong(func(c *api.Co) { c.Needs[at].Label = 0 })
		wrong(func(c *api.Co) { c.Needs[at].Name = c.Needs[(at+many/3)%many].Name })
		wrong(func(c *api.Co) { c.Names[at] = c.Names[(at+1)%many] })
		wrong(func(c *api.Co) { c.Fields[at] = Id() })
		wrong(func(c *api.Co) { c.Fields[at] = api.Co{} })
	}
}
