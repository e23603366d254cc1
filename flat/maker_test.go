package flat

import (
	"fmt"
	"slices"
	"strings"

	"gradus/api"
	"gradus/rel"
	"gradus/types"
)

// chance is a row of numbers that is the same each time.
type chance uint64

func (c *chance) below(n int) int {
	*c ^= *c << 13
	*c ^= *c >> 7
	*c ^= *c << 17
	return int(uint64(*c)>>11) % n
}

func (c *chance) one(words string) string {
	l := strings.Fields(words)
	return l[c.below(len(l))]
}

// maker makes up modules, nearly all of them right: an expression is made for a type that is wanted.
type maker struct {
	*chance
	strict bool // no any, no as, and each function tells both its types
	wide   bool // records may have more fields than their types tell
	in     []known
	funs   []known
}

// known is a variable, or a function of the module.
type known struct {
	name string
	is   api.Type
}

func functionType(takes, answers api.Type) api.Type {
	return api.Type{Kind: api.TFun, Kids: []api.Type{takes, answers}}
}

func (k *maker) typ(height int) api.Type {
	switch n := k.below(16); {
	case n < 5 && !k.strict:
		return api.Type{}
	case n < 10 || height <= 1:
		return api.Type{Kind: api.TNull + k.below(4)}
	case n < 12:
		return k.recordType(height)
	case n < 15:
		return functionType(k.typ(height-1), k.typ(height-1))
	}
	t := api.Type{Kind: api.TUnion}
	for _, kid := range []api.Type{{Kind: api.TNull}, {Kind: api.TInt}, k.recordType(height - 1), functionType(k.typ(1), k.typ(1))} {
		if k.below(2) == 0 {
			t.Kids = append(t.Kids, kid)
		}
	}
	if len(t.Kids) < 2 {
		return api.Type{Kind: api.TUnion, Kids: []api.Type{{Kind: api.TInt}, {Kind: api.TStr}}}
	}
	return t
}

func (k *maker) recordType(height int) api.Type {
	t := api.Type{Kind: api.TRec}
	for _, name := range []string{"a", "b", "c"} {
		if k.below(2) == 0 {
			t.Names, t.Kids = append(t.Names, name), append(t.Kids, k.typ(height-1))
		}
	}
	return t
}

// looser is a type that fits the one that is handed in, and tells less.
func (k *maker) looser(t api.Type) api.Type {
	if k.strict {
		return t
	}
	if k.below(4) == 0 {
		return api.Type{}
	}
	if t.Kind == api.TRec || t.Kind == api.TFun {
		kids := slices.Clone(t.Kids)
		for i := range kids {
			kids[i] = k.looser(kids[i])
		}
		t.Kids = kids
	}
	return t
}

func (k *maker) within(name string, is, want api.Type, height int) string {
	k.in = append(k.in, known{name, is})
	s := k.expr(want, height)
	k.in = k.in[:len(k.in)-1]
	return s
}

func (k *maker) leaf(want api.Type) string {
	var l []string
	for i, v := range k.in {
		hidden := slices.ContainsFunc(k.in[i+1:], func(w known) bool { return w.name == v.name })
		if types.Same(v.is, want) && !hidden {
			l = append(l, v.name)
		}
	}
	for _, f := range k.funs {
		if types.Same(f.is, want) {
			l = append(l, f.name)
		}
	}
	if len(l) > 0 && k.below(4) > 0 {
		return l[k.below(len(l))]
	}
	if want.Kind == api.TAny && len(k.in) > 0 && k.below(3) > 0 {
		return k.in[k.below(len(k.in))].name
	}
	switch want.Kind {
	case api.TNull:
		return "null"
	case api.TBool:
		return k.one("true false")
	case api.TInt:
		return k.one("0 1 2 3 40 read() 1")
	case api.TStr:
		return k.one(`"" "s" "tt" "\n"`)
	case api.TRec:
		return k.record(want, 1)
	case api.TFun:
		return k.function(want, 1+k.below(4))
	case api.TUnion:
		return k.leaf(want.Kids[k.below(len(want.Kids))])
	}
	return k.leaf(k.typ(3))
}

func (k *maker) function(want api.Type, height int) string {
	name := k.one("v w x y")
	answers := ": " + types.Show(want.Kids[1])
	if !k.strict && k.below(3) == 0 {
		answers = ""
	}
	return fmt.Sprintf("(fn (%s: %s)%s => %s%s)", name, types.Show(want.Kids[0]), answers, k.said(), k.within(name, want.Kids[0], want.Kids[1], height-1))
}

// said stands ahead of a function's body, and may tell what some variables are that it captures.
func (k *maker) said() string {
	var l []string
	for _, name := range []string{"a", "b", "c", "d"} {
		if len(k.in) > 0 && k.below(2) == 0 {
			l = append(l, name+": "+k.in[k.below(len(k.in))].name)
		}
	}
	if len(l) == 0 {
		return ""
	}
	return "let u = print({" + strings.Join(l, ", ") + "}); "
}

func (k *maker) record(want api.Type, height int) string {
	var l []string
	for i, name := range want.Names {
		l = append(l, name+": "+k.expr(want.Kids[i], height-1))
	}
	if k.wide && k.below(2) == 0 {
		l = append(l, "d: "+k.expr(k.typ(2), height-1))
	}
	for i := range l {
		j := i + k.below(len(l)-i)
		l[i], l[j] = l[j], l[i]
	}
	return "{" + strings.Join(l, ", ") + "}"
}

func (k *maker) expr(want api.Type, height int) string {
	if height <= 1 {
		return k.leaf(want)
	}
	h := height - 1
	switch k.below(16) {
	case 0, 1:
		return k.let(want, h)
	case 2:
		return fmt.Sprintf("(if %s then %s else %s)", k.expr(api.Type{Kind: api.TBool}, h), k.expr(want, h), k.expr(want, h))
	case 3:
		return k.asks(want, h)
	case 4, 5:
		return k.taken(want, h)
	case 6:
		return k.applied(want, h)
	case 7, 8:
		return k.calls(want, h)
	case 9:
		name := k.one("a b c")
		return fmt.Sprintf("%s.%s", k.used(api.Type{Kind: api.TRec, Names: []string{name}, Kids: []api.Type{want}}, h), name)
	case 10:
		if !k.strict {
			return k.expr(k.looser(want), h)
		}
	case 11:
		if !k.strict && k.below(8) == 0 {
			return fmt.Sprintf("(%s as any)", k.expr(k.typ(2), h))
		}
	}
	return k.ofKind(want, h)
}

func (k *maker) let(want api.Type, h int) string {
	name, is := k.one("v w x y"), k.typ(3)
	written := ": " + types.Show(is)
	if k.below(2) == 0 {
		written = ""
	}
	e := k.expr(is, h)
	return fmt.Sprintf("(let %s%s = %s; %s)", name, written, e, k.within(name, is, want, h))
}

// asks is a choice by a variable's tag.
func (k *maker) asks(want api.Type, h int) string {
	if len(k.in) == 0 {
		return k.leaf(want)
	}
	// The last one of its name.
	v := &k.in[len(k.in)-1]
	before, tag := v.is, k.below(api.Tags)
	if before.Kind == api.TUnion {
		tag = types.Tag(before.Kids[k.below(len(before.Kids))])
	}
	test := fmt.Sprintf("%s is %s", v.name, []string{"null", "bool", "int", "str", "record", "function"}[tag])
	yes, no := rel.Narrow(before, tag)
	at := len(k.in) - 1
	k.in[at].is = yes
	first := k.expr(want, h)
	k.in[at].is = no
	second := k.expr(want, h)
	k.in[at].is = before
	return fmt.Sprintf("(if %s then %s else %s)", test, first, second)
}

// taken is an expression that goes through other types, most often such as it stands.
func (k *maker) taken(want api.Type, h int) string {
	if k.strict {
		return k.ofKind(want, h)
	}
	e := k.expr(k.looser(want), h)
	for range 1 + k.below(3) {
		e = fmt.Sprintf("(%s as %s)", e, types.Show(k.looser(want)))
	}
	return fmt.Sprintf("(%s as %s)", e, types.Show(want))
}

// used is an expression that something is done with: often one that was coerced.
func (k *maker) used(want api.Type, h int) string {
	if k.below(2) == 0 {
		return k.taken(want, h)
	}
	return k.expr(want, h)
}

// applied is a call of a function that is made for it; if it is taken as one of another type, what it is handed may be
// anything.
func (k *maker) applied(want api.Type, h int) string {
	takes := k.typ(2)
	f := k.used(functionType(takes, want), h)
	if k.strict || k.below(3) == 0 {
		return fmt.Sprintf("%s(%s)", f, k.expr(takes, h))
	}
	given := takes
	if k.below(3) == 0 {
		given = k.typ(2)
	}
	as := k.one("any any->any")
	return fmt.Sprintf("(%s as %s)(%s)", f, as, k.expr(given, h))
}

// calls is a call of a function of the module.
func (k *maker) calls(want api.Type, h int) string {
	for range 4 {
		f := k.funs[k.below(len(k.funs))]
		if types.Same(f.is.Kids[1], want) || !k.strict && f.is.Kids[1].Kind == api.TAny && k.below(4) == 0 {
			return fmt.Sprintf("%s(%s)", f.name, k.expr(f.is.Kids[0], h))
		}
	}
	return k.ofKind(want, h)
}

func (k *maker) ofKind(want api.Type, h int) string {
	side := func(is api.Type) string {
		if !k.strict && k.below(5) == 0 {
			return fmt.Sprintf("(%s as any)", k.expr(is, h))
		}
		return k.expr(is, h)
	}
	two := func(ops string, is api.Type) string {
		return fmt.Sprintf("(%s %s %s)", side(is), k.one(ops), side(is))
	}
	number, truth := api.Type{Kind: api.TInt}, api.Type{Kind: api.TBool}
	switch want.Kind {
	case api.TNull:
		return fmt.Sprintf("print(%s)", k.expr(k.typ(3), h))
	case api.TInt:
		switch k.below(12) {
		case 0:
			return fmt.Sprintf("(- %s)", side(number))
		case 1:
			return two("/ %", number)
		}
		return two("+ - * << >> & ^", number)
	case api.TStr:
		return two("++", want)
	case api.TBool:
		switch k.below(6) {
		case 0:
			return two("or and", truth)
		case 1:
			return two("==", []api.Type{number, truth, {Kind: api.TStr}, k.typ(2)}[k.below(4)])
		case 2:
			return fmt.Sprintf("(not %s)", side(truth))
		case 3:
			return fmt.Sprintf("(%s is %s)", k.expr(k.typ(2), h), k.one("null bool int str record function"))
		}
		return two("< <=", number)
	case api.TRec:
		if len(want.Kids) > 0 && k.below(2) == 0 {
			at := k.below(len(want.Kids))
			base := want
			if k.below(2) == 0 {
				base = api.Type{Kind: api.TRec, Names: slices.Delete(slices.Clone(want.Names), at, at+1), Kids: slices.Delete(slices.Clone(want.Kids), at, at+1)}
			}
			return fmt.Sprintf("{%s with %s: %s}", k.expr(base, h), want.Names[at], k.expr(want.Kids[at], h))
		}
		return k.record(want, h)
	case api.TFun:
		return k.function(want, h)
	}
	return k.leaf(want)
}

// behind is an expression that stands behind some variables of its own, which are there to be captured.
func (k *maker) behind(lets int, want api.Type, height int) string {
	if lets == 0 {
		return k.expr(want, height)
	}
	name, is := k.one("l m n"), k.typ(2)
	text := fmt.Sprintf("let %s: %s = %s; ", name, types.Show(is), k.leaf(is))
	k.in = append(k.in, known{name, is})
	return text + k.behind(lets-1, want, height)
}

// makeUp is a module of some functions, the last of which is main.
func (k *maker) makeUp() string {
	k.funs = nil
	for i := range 1 + k.below(4) {
		k.funs = append(k.funs, known{fmt.Sprint("f", i), functionType(k.typ(3), k.typ(3))})
	}
	k.funs = append(k.funs, known{"main", functionType(api.Type{Kind: api.TNull}, k.typ(3))})
	var text strings.Builder
	for _, f := range k.funs {
		name := k.one("v w x y")
		k.in = []known{{name, f.is.Kids[0]}}
		body := k.behind(k.below(4), f.is.Kids[1], 2+k.below(5))
		fmt.Fprintf(&text, "fn %s(%s: %s): %s = %s;\n", f.name, name, types.Show(f.is.Kids[0]), types.Show(f.is.Kids[1]), body)
	}
	return text.String()
}
