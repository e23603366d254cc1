package check

import (
	"fmt"
	"slices"
	"strings"

	"gradus/api"
	"gradus/inst"
	"gradus/lex"
	"gradus/rel"
	"gradus/types"
)

// reading is a second reading of the chapter: errors are values, what is in scope is a chain that is never changed,
// numbers are found by going through lists, and cores are told as texts, as told_test.go has them.
type reading struct {
	l        api.Linked
	funs     []api.Instance // those without Types are of the first sort
	sites    []api.Site
	anyJoins int // choices whose type became any, though neither branch's was
	now      api.Instance
}

// read is the program's text, or the Diags.
func read(l api.Linked) (*reading, string, []api.Diag) {
	r := &reading{l: l}
	for m, module := range l.Modules {
		for i, d := range module.Decls {
			if len(d.Vars) > 0 {
				continue
			}
			if len(r.funs) == 256 {
				return r, "", []api.Diag{{Module: m, Line: d.Line, Col: d.Col, E: api.ErrMany}}
			}
			r.funs = append(r.funs, api.Instance{Module: m, Decl: i})
		}
	}
	var lines []string
	var diags []api.Diag
	for i := 0; i < len(r.funs); i++ {
		r.now = r.funs[i]
		line, f := r.function()
		if f != nil {
			diags = append(diags, api.Diag{Module: r.now.Module, Line: f.line, Col: f.col, E: f.e})
		}
		lines = append(lines, line)
	}
	main := r.plainNumber(l.Main.Module, l.Main.Decl)
	lines = append([]string{fmt.Sprint("main ", main)}, lines...)
	for _, s := range r.sites {
		lines = append(lines, siteText(s))
	}
	if len(diags) > 0 {
		return r, "", diags
	}
	return r, strings.Join(lines, "\n"), nil
}

type fault struct {
	line, col int
	e         api.Errno
}

func faultAt(n api.Node, e api.Errno) *fault { return &fault{n.Line, n.Col, e} }

// env is a variable, and those that are further out.
type env struct {
	name string
	n    int
	is   api.Type
	out  *env
}

func (e *env) add(name string, is api.Type) *env {
	n := 0
	if e != nil {
		n = e.n + 1
	}
	return &env{name, n, is, e}
}

func (e *env) find(name string) *env {
	if e == nil || e.name == name {
		return e
	}
	return e.out.find(name)
}

// but is the same chain, in which one variable has another type.
func (e *env) but(n int, is api.Type) *env {
	if e.n == n {
		return &env{e.name, n, is, e.out}
	}
	return &env{e.name, e.n, e.is, e.out.but(n, is)}
}

func (r *reading) plainNumber(module, decl int) int {
	return slices.IndexFunc(r.funs, func(i api.Instance) bool {
		return i.Module == module && i.Decl == decl && len(i.Types) == 0
	})
}

func (r *reading) decl(i api.Instance) api.Decl { return r.l.Modules[i.Module].Decls[i.Decl] }

// resolve is a type as the function i has written it.
func (r *reading) resolve(i api.Instance, t api.Type) (api.Type, bool) {
	var vars []string
	for _, v := range r.decl(i).Vars {
		vars = append(vars, v.Name)
	}
	t, e := inst.Resolve(t, vars, i.Types)
	return t, e == api.OK
}

// typeOf is a function's type.
func (r *reading) typeOf(i api.Instance) (api.Type, bool) {
	takes, ok := r.resolve(i, r.decl(i).Types[0])
	answers, ok2 := r.resolve(i, r.decl(i).Types[1])
	if !ok || !ok2 {
		return api.Type{}, false
	}
	return norm(api.Type{Kind: api.TFun, Kids: []api.Type{takes, answers}})
}

func norm(t api.Type) (api.Type, bool) {
	t, e := types.Norm(t)
	return t, e == api.OK
}

func (r *reading) function() (string, *fault) {
	d := r.decl(r.now)
	is, ok := r.typeOf(r.now)
	if !ok {
		return "", &fault{d.Line, d.Col, api.ErrType}
	}
	if r.now.Module == r.l.Main.Module && r.now.Decl == r.l.Main.Decl && !rel.Fits(api.Type{Kind: api.TNull}, is.Kids[0]) {
		return "", &fault{d.Line, d.Col, api.ErrMain}
	}
	var none *env
	text, f := r.as(d.Body, none.add(d.Param, is.Kids[0]), is.Kids[1])
	name := r.l.Names[r.now.Module] + "." + d.Name
	for i, t := range r.now.Types {
		name += []string{"[", ", "}[min(i, 1)] + types.Show(t)
	}
	if len(r.now.Types) > 0 {
		name += "]"
	}
	return name + ": " + types.Show(is) + " = " + text, f
}

// as is an expression that is coerced to a type, at its own place.
func (r *reading) as(n api.Node, in *env, to api.Type) (string, *fault) {
	text, is, f := r.expr(n, in)
	if f != nil {
		return "", f
	}
	return r.coerce(n, text, is, to)
}

func (r *reading) coerce(n api.Node, text string, is, to api.Type) (string, *fault) {
	if rel.Sub(is, to) {
		return text, nil
	}
	if !rel.Fits(is, to) {
		return "", faultAt(n, api.ErrMatch)
	}
	return castText(r.site(n), text, is, to), nil
}

func (r *reading) site(n api.Node) int {
	r.sites = append(r.sites, api.Site{Module: r.now.Module, Line: n.Line, Col: n.Col})
	return len(r.sites) - 1
}

var anyType, boolType, intType, strType, nullType = api.Type{}, api.Type{Kind: api.TBool}, api.Type{Kind: api.TInt}, api.Type{Kind: api.TStr}, api.Type{Kind: api.TNull}

type reader func(r *reading, n api.Node, in *env) (string, api.Type, *fault)

func (r *reading) expr(n api.Node, in *env) (string, api.Type, *fault) {
	switch n.Kind {
	case api.NInt:
		return fmt.Sprint(n.N), intType, nil
	case api.NStr:
		return lex.Quote(n.Text), strType, nil
	case api.NBool:
		return boolText(n.N), boolType, nil
	case api.NNull:
		return "null", nullType, nil
	case api.NRead:
		return "read", intType, nil
	}
	return [api.NKinds]reader{
		api.NName: (*reading).name, api.NInst: (*reading).instance, api.NLet: (*reading).let, api.NFn: (*reading).fn,
		api.NCall: (*reading).call, api.NRec: (*reading).rec, api.NSel: (*reading).sel, api.NWith: (*reading).with,
		api.NIf: (*reading).choice, api.NIs: (*reading).is, api.NAs: (*reading).taken, api.NOp: (*reading).op,
		api.NNot: (*reading).not, api.NNeg: (*reading).neg, api.NPrint: (*reading).print,
	}[n.Kind](r, n, in)
}

func (r *reading) scoped(name string) (api.Instance, bool) {
	for _, e := range r.l.Scopes[r.now.Module] {
		if e.Name == name {
			return api.Instance{Module: e.Module, Decl: e.Decl}, true
		}
	}
	return api.Instance{}, false
}

func (r *reading) name(n api.Node, in *env) (string, api.Type, *fault) {
	if v := in.find(n.Text); v != nil {
		return fmt.Sprint("v", v.n), v.is, nil
	}
	i, there := r.scoped(n.Text)
	if !there {
		return "", anyType, faultAt(n, api.ErrName)
	}
	if len(r.decl(i).Vars) > 0 {
		return "", anyType, faultAt(n, api.ErrInst)
	}
	is, ok := r.typeOf(i)
	if !ok {
		return "", anyType, faultAt(n, api.ErrType)
	}
	return fmt.Sprint("g", r.plainNumber(i.Module, i.Decl)), is, nil
}

func (r *reading) instance(n api.Node, in *env) (string, api.Type, *fault) {
	i, there := r.scoped(n.Text)
	switch {
	case in.find(n.Text) != nil:
		return "", anyType, faultAt(n, api.ErrInst)
	case !there:
		return "", anyType, faultAt(n, api.ErrName)
	case len(r.decl(i).Vars) == 0:
		return "", anyType, faultAt(n, api.ErrInst)
	}
	for _, t := range n.Types {
		kept, ok := r.resolve(r.now, t)
		if !ok {
			return "", anyType, faultAt(n, api.ErrType)
		}
		i.Types = append(i.Types, kept)
	}
	if inst.Bind(r.decl(i).Vars, i.Types) != api.OK {
		return "", anyType, faultAt(n, api.ErrInst)
	}
	is, ok := r.typeOf(i)
	if !ok {
		return "", anyType, faultAt(n, api.ErrType)
	}
	number := slices.IndexFunc(r.funs, func(k api.Instance) bool {
		return k.Module == i.Module && k.Decl == i.Decl && slices.EqualFunc(k.Types, i.Types, types.Same)
	})
	if number < 0 {
		if len(r.funs) == 256 {
			return "", anyType, faultAt(n, api.ErrMany)
		}
		number = len(r.funs)
		r.funs = append(r.funs, i)
	}
	return fmt.Sprint("g", number), is, nil
}

func (r *reading) let(n api.Node, in *env) (string, api.Type, *fault) {
	e, is, f := r.expr(n.Kids[0], in)
	if f == nil && len(n.Types) == 1 {
		to, ok := r.resolve(r.now, n.Types[0])
		if !ok {
			return "", anyType, faultAt(n, api.ErrType)
		}
		e, f = r.coerce(n.Kids[0], e, is, to)
		is = to
	}
	if f != nil {
		return "", anyType, f
	}
	rest, is, f := r.expr(n.Kids[1], in.add(n.Text, is))
	return "(let " + e + "; " + rest + ")", is, f
}

func (r *reading) fn(n api.Node, in *env) (string, api.Type, *fault) {
	is := api.Type{Kind: api.TFun}
	for _, t := range n.Types {
		kept, ok := r.resolve(r.now, t)
		if !ok {
			return "", anyType, faultAt(n, api.ErrType)
		}
		is.Kids = append(is.Kids, kept)
	}
	e, body, f := r.expr(n.Kids[0], in.add(n.Text, is.Kids[0]))
	if f != nil {
		return "", anyType, f
	}
	if len(is.Kids) == 1 {
		is.Kids = append(is.Kids, body)
	} else if e, f = r.coerce(n.Kids[0], e, body, is.Kids[1]); f != nil {
		return "", anyType, f
	}
	is, ok := norm(is)
	if !ok {
		f = faultAt(n, api.ErrType)
	}
	return "(fn " + e + ")", is, f
}

func (r *reading) call(n api.Node, in *env) (string, api.Type, *fault) {
	e, is, f := r.expr(n.Kids[0], in)
	if f != nil {
		return "", anyType, f
	}
	if is.Kind == api.TAny {
		to := api.Type{Kind: api.TFun, Kids: []api.Type{anyType, anyType}}
		e, is = castText(r.site(n), e, is, to), to
	}
	if is.Kind != api.TFun {
		return "", anyType, faultAt(n, api.ErrCall)
	}
	given, f := r.as(n.Kids[1], in, is.Kids[0])
	return e + "(" + given + ")", is.Kids[1], f
}

func (r *reading) rec(n api.Node, in *env) (string, api.Type, *fault) {
	for i, name := range n.Names {
		if slices.Contains(n.Names[:i], name) {
			return "", anyType, faultAt(n, api.ErrTwice)
		}
	}
	is := api.Type{Kind: api.TRec, Names: n.Names}
	var l []string
	for i, kid := range n.Kids {
		e, t, f := r.expr(kid, in)
		if f != nil {
			return "", anyType, f
		}
		l = append(l, n.Names[i]+": "+e)
		is.Kids = append(is.Kids, t)
	}
	is, ok := norm(is)
	if !ok {
		return "", anyType, faultAt(n, api.ErrType)
	}
	return "{" + strings.Join(l, ", ") + "}", is, nil
}

func (r *reading) sel(n api.Node, in *env) (string, api.Type, *fault) {
	e, is, f := r.expr(n.Kids[0], in)
	if f != nil {
		return "", anyType, f
	}
	if is.Kind == api.TAny {
		to := api.Type{Kind: api.TRec, Names: []string{n.Text}, Kids: []api.Type{anyType}}
		return castText(r.site(n), e, is, to) + "." + n.Text, anyType, nil
	}
	for i, name := range is.Names {
		if is.Kind == api.TRec && name == n.Text {
			return e + "." + n.Text, is.Kids[i], nil
		}
	}
	return "", anyType, faultAt(n, api.ErrField)
}

func (r *reading) with(n api.Node, in *env) (string, api.Type, *fault) {
	e, is, f := r.expr(n.Kids[0], in)
	if f != nil {
		return "", anyType, f
	}
	if is.Kind == api.TAny {
		to := api.Type{Kind: api.TRec}
		e, is = castText(r.site(n), e, is, to), to
	}
	if is.Kind != api.TRec {
		return "", anyType, faultAt(n, api.ErrField)
	}
	field, t, f := r.expr(n.Kids[1], in)
	if f != nil {
		return "", anyType, f
	}
	made := api.Type{Kind: api.TRec, Names: []string{n.Text}, Kids: []api.Type{t}}
	for i, name := range is.Names {
		if name != n.Text {
			made.Names, made.Kids = append(made.Names, name), append(made.Kids, is.Kids[i])
		}
	}
	made, ok := norm(made)
	if !ok {
		f = faultAt(n, api.ErrType)
	}
	return "{" + e + " with " + n.Text + ": " + field + "}", made, f
}

func (r *reading) choice(n api.Node, in *env) (string, api.Type, *fault) {
	test, f := r.as(n.Kids[0], in, boolType)
	if f != nil {
		return "", anyType, f
	}
	inYes, inNo := in, in
	if asked := n.Kids[0]; asked.Kind == api.NIs && asked.Kids[0].Kind == api.NName {
		if v := in.find(asked.Kids[0].Text); v != nil {
			first, second := rel.Narrow(v.is, asked.N)
			inYes, inNo = in.but(v.n, first), in.but(v.n, second)
		}
	}
	yes, yesIs, f := r.expr(n.Kids[1], inYes)
	if f != nil {
		return "", anyType, f
	}
	no, noIs, f := r.expr(n.Kids[2], inNo)
	if f != nil {
		return "", anyType, f
	}
	is := rel.Join(yesIs, noIs)
	if is.Kind == api.TAny && yesIs.Kind != api.TAny && noIs.Kind != api.TAny {
		r.anyJoins++
	}
	yes, f = r.coerce(n.Kids[1], yes, yesIs, is)
	if f != nil {
		return "", anyType, f
	}
	no, f = r.coerce(n.Kids[2], no, noIs, is)
	return "(if " + test + " then " + yes + " else " + no + ")", is, f
}

func (r *reading) is(n api.Node, in *env) (string, api.Type, *fault) {
	e, _, f := r.expr(n.Kids[0], in)
	return fmt.Sprintf("(%s is %d)", e, n.N), boolType, f
}

func (r *reading) taken(n api.Node, in *env) (string, api.Type, *fault) {
	e, is, f := r.expr(n.Kids[0], in)
	if f != nil {
		return "", anyType, f
	}
	to, ok := r.resolve(r.now, n.Types[0])
	switch {
	case !ok:
		return "", anyType, faultAt(n, api.ErrType)
	case rel.Sub(is, to):
		return e, to, nil
	case is.Kind == api.TAny:
		return castText(r.site(n), e, is, to), to, nil
	case to.Kind == api.TAny:
		return castText(r.site(n), e, is, to), to, nil
	}
	site := r.site(n)
	return castText(site, castText(site, e, is, anyType), anyType, to), to, nil
}

func (r *reading) op(n api.Node, in *env) (string, api.Type, *fault) {
	side, answer, text := intType, intType, ""
	switch n.Text {
	case "==":
		e, _, f := r.expr(n.Kids[0], in)
		if f != nil {
			return "", anyType, f
		}
		g, _, f := r.expr(n.Kids[1], in)
		return "(" + e + " == " + g + ")", boolType, f
	case "or":
		side, answer, text = boolType, boolType, "(if E then true else F)"
	case "and":
		side, answer, text = boolType, boolType, "(if E then F else false)"
	case "++":
		side, answer, text = strType, strType, "(E ++ F)"
	case "<", "<=":
		answer = boolType
	}
	if text == "" {
		text = fmt.Sprintf("(E op%d F)", slices.Index(strings.Fields("+ - * / % << >> & ^ < <="), n.Text))
	}
	e, f := r.as(n.Kids[0], in, side)
	if f != nil {
		return "", anyType, f
	}
	g, f := r.as(n.Kids[1], in, side)
	return strings.NewReplacer("E", e, "F", g).Replace(text), answer, f
}

func (r *reading) not(n api.Node, in *env) (string, api.Type, *fault) {
	e, f := r.as(n.Kids[0], in, boolType)
	return "(not " + e + ")", boolType, f
}

func (r *reading) neg(n api.Node, in *env) (string, api.Type, *fault) {
	e, f := r.as(n.Kids[0], in, intType)
	return "(- " + e + ")", intType, f
}

func (r *reading) print(n api.Node, in *env) (string, api.Type, *fault) {
	e, _, f := r.expr(n.Kids[0], in)
	return "print(" + e + ")", nullType, f
}
