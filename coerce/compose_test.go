package coerce

import (
	"testing"

	"gradus/api"
)

// composing is a row: the texts of two coercions, and that of Compose of them.
type composing struct{ a, b, want string }

func holdComposings(t *testing.T, rows []composing) {
	t.Helper()
	for _, r := range rows {
		if got := Compose(co(r.a), co(r.b)); !alike(got, co(r.want)) {
			t.Errorf("Compose(%s, %s): %s, not %s", r.a, r.b, told(got), r.want)
		}
		// Within a field, and within what is answered, as they are; within what is taken the other way round.
		if r.a == "id" || r.b == "id" {
			continue
		}
		in := func(before, s, behind string) api.Co { return co(before + s + behind) }
		holdCo(t, "in a field: "+r.a+", "+r.b, Compose(in("<x=", r.a, ">"), in("<x=", r.b, ">")), in("<x=", r.want, ">"))
		holdCo(t, "in what is answered: "+r.a+", "+r.b, Compose(in("<(id ~", r.a, ")>"), in("<(id ~", r.b, ")>")), in("<(id ~", r.want, ")>"))
		holdCo(t, "in what is taken: "+r.a+", "+r.b, Compose(in("<(", r.b, "~ id)>"), in("<(", r.a, "~ id)>")), in("<(", r.want, "~ id)>"))
		holdCo(t, "in what is taken by what is taken: "+r.a+", "+r.b, Compose(in("<(<(", r.a, "~ id)> ~ id)>"), in("<(<(", r.b, "~ id)> ~ id)>")), in("<(<(", r.want, "~ id)> ~ id)>"))
	}
}

// P10.3: labels of either side and of both.
func TestComposeLabels(t *testing.T) {
	holdComposings(t, []composing{
		{"id", "id", "id"},
		{"<n:2>", "id", "<n:2>"}, {"id", "<n:2>", "<n:2>"}, {"<n:2>", "<n:3>", "<n:2>"}, {"<n:3>", "<n:2>", "<n:3>"}, {"<n:2>", "<b:3>", "<n:2 b:3>"}, {"<b:3>", "<n:2>", "<n:2 b:3>"},
		{"<nbi:2>", "<isrf:4>", "<nbi:2 srf:4>"}, {"<isrf:4>", "<nbi:2>", "<isrf:4 nb:2>"}, {"<nbsrf:2>", "<nbirf:4>", "<nbsrf:2 i:4>"}, {"<nbisrf:2>", "<nbisrf:4>", "<nbisrf:2>"},
		{"<n:-2 i:5>", "<n:7 i:-5 s:-1>", "<n:-2 i:5 s:-1>"}, {"<n:1 b:2 i:3>", "<s:4 r:5 f:6>", "<n:1 b:2 i:3 s:4 r:5 f:6>"},
		{"<r:2>", "<r:4>", "<r:2>"}, {"<f:2>", "<f:4>", "<f:2>"},
	})
}

// P10.3: Needs of both, with names in common, also where the tag of records is blamed.
func TestComposeNeeds(t *testing.T) {
	holdComposings(t, []composing{
		{"<a!2>", "id", "<a!2>"}, {"id", "<a!2>", "<a!2>"}, {"<a!2>", "<a!4>", "<a!2>"}, {"<a!2>", "<b!4>", "<a!2 b!4>"}, {"<b!2>", "<a!4>", "<b!2 a!4>"},
		{"<b!2 a!3>", "<d!4 a!5 c!6 b!7>", "<b!2 a!3 d!4 c!6>"}, {"<a!2 b!2>", "<b!4 a!4>", "<a!2 b!2>"}, {"<c!2>", "<c!3 b!3 a!3>", "<c!2 b!3 a!3>"},
		// The former blames records: the latter's are not asked for. The latter does: they are, ahead of its label.
		{"<r:2 a!3>", "<b!4>", "<r:2 a!3>"}, {"<r:2>", "<b!4>", "<r:2>"}, {"<a!3>", "<r:2 b!4>", "<r:2 a!3 b!4>"}, {"id", "<r:2 b!4>", "<r:2 b!4>"}, {"<a!3>", "<r:2>", "<r:2 a!3>"},
		{"<r:2 a!3>", "<r:4 b!5>", "<r:2 a!3>"}, {"<a!3>", "<r:2 a!4>", "<r:2 a!3>"}, {"<r:2 a!3>", "<r:4 a!5 b!5>", "<r:2 a!3>"},
		// Labels of other tags play no part:
		{"<nbisf:2 a!3>", "<b!4>", "<nbisf:2 a!3 b!4>"}, {"<f:2>", "<b!4>", "<f:2 b!4>"},
	})
}

// P10.3: Fields that one has, that both have; none where the tag of records is blamed.
func TestComposeFields(t *testing.T) {
	holdComposings(t, []composing{
		{"<a=<n:2>>", "id", "<a=<n:2>>"}, {"id", "<a=<n:2>>", "<a=<n:2>>"}, {"<a=<n:2>>", "<b=<n:3>>", "<a=<n:2> b=<n:3>>"}, {"<b=<n:2>>", "<a=<n:3>>", "<a=<n:3> b=<n:2>>"},
		{"<a=<n:2>>", "<a=<n:3>>", "<a=<n:2>>"}, {"<a=<n:3>>", "<a=<n:2>>", "<a=<n:3>>"}, {"<a=<n:2>>", "<a=<b:3>>", "<a=<n:2 b:3>>"}, {"<a=<b:3>>", "<a=<n:2>>", "<a=<n:2 b:3>>"},
		{"<b=<n:2> d=<n:2>>", "<a=<i:3> b=<i:3> c=<i:3> e=<i:3>>", "<a=<i:3> b=<n:2 i:3> c=<i:3> d=<n:2> e=<i:3>>"}, {"<Z=<n:2> b=<n:2>>", "<_=<i:3> a10=<i:3> a9=<i:3>>", "<Z=<n:2> _=<i:3> a10=<i:3> a9=<i:3> b=<n:2>>"},
		{"<a=<a!2>>", "<a=<a!3 b!3>>", "<a=<a!2 b!3>>"}, {"<a=<a=<n:2>>>", "<a=<a=<b:3>> b=<n:4>>", "<a=<a=<n:2 b:3>> b=<n:4>>"}, {"<a=<r:2>>", "<a=<a=<n:3>>>", "<a=<r:2>>"}, {"<a=<a=<n:3>>>", "<a=<r:2>>", "<a=<r:2>>"},
		// Records are blamed, by the one or the other:
		{"<r:2>", "<a=<n:3>>", "<r:2>"}, {"<a=<n:3>>", "<r:2>", "<r:2>"}, {"<a!4 a=<n:3>>", "<r:2 b!5>", "<r:2 a!4 b!5>"}, {"<r:2 b!5>", "<a!4 a=<n:3>>", "<r:2 b!5>"}, {"<r:2>", "<r:3>", "<r:2>"},
		{"<f:2 a=<n:3>>", "<f:4 b=<n:5>>", "<f:2 a=<n:3> b=<n:5>>"}, {"<nbisf:2 a!2 a=<nbsrf:2>>", "<nbisf:4 a!4 a=<nbirf:4>>", "<nbisf:2 a!2 a=<nbsrf:2 i:4>>"},
	})
}

// P10.3: Fun of one, of both; the order of what is taken and of what is answered; none where functions are blamed.
func TestComposeFun(t *testing.T) {
	holdComposings(t, []composing{
		{"<(<n:2> ~ id)>", "id", "<(<n:2> ~ id)>"}, {"id", "<(<n:2> ~ id)>", "<(<n:2> ~ id)>"}, {"<(id ~ <n:2>)>", "id", "<(id ~ <n:2>)>"}, {"id", "<(id ~ <n:2>)>", "<(id ~ <n:2>)>"},
		{"<(<n:2> ~ <b:2>)>", "id", "<(<n:2> ~ <b:2>)>"}, {"id", "<(<n:2> ~ <b:2>)>", "<(<n:2> ~ <b:2>)>"}, {"<i:5>", "<(<n:2> ~ <b:2>)>", "<i:5 (<n:2> ~ <b:2>)>"},
		{"<(<n:2> ~ id)>", "<(<n:3> ~ id)>", "<(<n:3> ~ id)>"}, {"<(id ~ <n:2>)>", "<(id ~ <n:3>)>", "<(id ~ <n:2>)>"}, {"<(<n:2> ~ <n:4>)>", "<(<n:3> ~ <n:5>)>", "<(<n:3> ~ <n:4>)>"},
		{"<(<n:2> ~ id)>", "<(id ~ <n:3>)>", "<(<n:2> ~ <n:3>)>"}, {"<(id ~ <n:3>)>", "<(<n:2> ~ id)>", "<(<n:2> ~ <n:3>)>"}, {"<(<n:2> ~ id)>", "<(<b:3> ~ id)>", "<(<n:2 b:3> ~ id)>"}, {"<(id ~ <n:2>)>", "<(id ~ <b:3>)>", "<(id ~ <n:2 b:3>)>"},
		{"<(<a!2 b!2> ~ <a!2 b!2>)>", "<(<c!3 b!3> ~ <c!3 b!3>)>", "<(<c!3 b!3 a!2> ~ <a!2 b!2 c!3>)>"}, {"<(<r:2> ~ <r:2>)>", "<(<a=<n:3>> ~ <a=<n:3>>)>", "<(<r:2> ~ <r:2>)>"},
		{"<(<(<n:2> ~ <n:4>)> ~ id)>", "<(<(<n:3> ~ <n:5>)> ~ id)>", "<(<(<n:2> ~ <n:5>)> ~ id)>"}, {"<(id ~ <(<n:2> ~ <n:4>)>)>", "<(id ~ <(<n:3> ~ <n:5>)>)>", "<(id ~ <(<n:3> ~ <n:4>)>)>"},
		{"<a=<(<n:2> ~ <n:4>)>>", "<a=<(<n:3> ~ <n:5>)>>", "<a=<(<n:3> ~ <n:4>)>>"},
		// Functions are blamed, by the one or the other:
		{"<f:2>", "<(<n:3> ~ <n:3>)>", "<f:2>"}, {"<(<n:3> ~ <n:3>)>", "<f:2>", "<f:2>"}, {"<f:2>", "<f:3>", "<f:2>"}, {"<f:2 a=<n:2>>", "<(id ~ <n:3>) b=<n:3>>", "<f:2 a=<n:2> b=<n:3>>"},
		{"<r:2 (id ~ <n:3>)>", "<r:4 (<n:5> ~ id)>", "<r:2 (<n:5> ~ <n:3>)>"}, {"<a=<n:2> (id ~ <n:2>)>", "<rf:3>", "<rf:3>"}, {"<rf:3>", "<a=<n:2> (id ~ <n:2>)>", "<rf:3>"},
		{"<nbisr:2 (id ~ <nbsrf:2>)>", "<(<nbsrf:5> ~ id)>", "<nbisr:2 (<nbsrf:5> ~ <nbsrf:2>)>"},
	})
}

// P10.3: what is put together comes to Id just where both are: no field and no Fun is lost.
func TestComposeToId(t *testing.T) {
	normal, _ := nearlyId()
	for _, a := range normal {
		for _, b := range append(normal, Id()) {
			for _, c := range []api.Co{Compose(a, b), Compose(b, a)} {
				if Same(c, Id()) || !May(c) {
					t.Errorf("Compose of %s and %s: %s", told(a), told(b), told(c))
				}
			}
		}
	}
}

// P10.3: nothing, if one is not normal, whatever the other one is.
func TestComposeOfWrongOnes(t *testing.T) {
	good := append(cos("id", "<n:2>", "<nbisrf:2>", "<a!2 a=<n:2>>", "<(<n:2> ~ id)>", "<rf:2>"), nested(20, co("<n:2>")))
	_, wrong := nearlyId()
	wrong = append(wrong, cos("none", "<a!1 a!2>", "<a!0>", "<b=<n:1> a=<n:1>>", "<a=<n:1> a=<n:1>>", "<a=id>", "<(id ~ id)>", "<r:1 a=<n:1>>", "<f:1 (id ~ <n:1>)>", "<a=none>", "<(none ~ id)>")...)
	for _, one := range wrong {
		for _, bad := range around(one) {
			for _, g := range append(good, bad) {
				holdCo(t, "Compose of a wrong one", Compose(bad, g), api.Co{})
				holdCo(t, "Compose with a wrong one", Compose(g, bad), api.Co{})
			}
		}
	}
}
