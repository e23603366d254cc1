package parse

import (
	"math"
	"math/rand"
	"strings"
	"testing"

	"gradus/api"
	"gradus/lex"
	"gradus/tree"
	"gradus/word"
)

// maker makes up modules, the same ones each time.
type maker struct{ *rand.Rand }

func (k maker) name() string {
	return []string{"a", "b", "f", "x1", "_", "lets", "A", strings.Repeat("n", 32)}[k.Intn(8)]
}

func (k maker) names(count int) []string {
	out := make([]string, count)
	for i := range out {
		out[i] = k.name()
	}
	return out
}

func (k maker) types(count, height int) []api.Type {
	out := make([]api.Type, count)
	for i := range out {
		out[i] = k.typeOf(height)
	}
	return out
}

func (k maker) typeOf(height int) api.Type {
	if height <= 1 || k.Intn(3) == 0 {
		if k.Intn(4) == 0 {
			return variable(k.name())
		}
		return leaf(k.Intn(5))
	}
	switch k.Intn(3) {
	case 0:
		count := k.Intn(3)
		return api.Type{Kind: api.TRec, Names: k.names(count), Kids: k.types(count, height-1)}
	case 1:
		return api.Type{Kind: api.TFun, Kids: k.types(2, height-1)}
	}
	return api.Type{Kind: api.TUnion, Kids: k.types(2+k.Intn(2), height-1)}
}

// kidsOf has how many Kids each Kind has, but a record, which may have any number.
func kidsOf(kind int) int {
	switch kind {
	case api.NLet, api.NCall, api.NWith, api.NOp:
		return 2
	case api.NFn, api.NSel, api.NIs, api.NAs, api.NNot, api.NNeg, api.NPrint:
		return 1
	case api.NIf:
		return 3
	}
	return 0
}

func (k maker) kind(leaf bool) int {
	for {
		kind := k.Intn(api.NKinds)
		if !leaf || kidsOf(kind) == 0 && kind != api.NRec {
			return kind
		}
	}
}

// node goes the way of one Kid to the end of the height, so that what is as high as may be does not grow without end.
func (k maker) node(height int) api.Node {
	n := api.Node{Kind: k.kind(height <= 1)}
	n.Kids = make([]api.Node, kidsOf(n.Kind))
	switch n.Kind {
	case api.NInt:
		n.N = []int{0, 1, 10, 987654321, math.MaxInt}[k.Intn(5)]
	case api.NBool:
		n.N = k.Intn(2)
	case api.NIs:
		n.N = k.Intn(api.Tags)
	case api.NStr:
		n.Text = []string{"", "a b", "\"", "\\\n\t", "\x7f\xc3\xa4", "let", ")", strings.Repeat("\"", 256)}[k.Intn(8)]
	case api.NOp:
		n.Text = tree.Ops()[k.Intn(15)]
	case api.NName, api.NLet, api.NFn, api.NSel, api.NWith, api.NInst:
		n.Text = k.name()
	case api.NRec:
		count := k.Intn(4)
		n.Names, n.Kids = k.names(count), make([]api.Node, count)
	}
	switch n.Kind {
	case api.NLet:
		n.Types = k.types(k.Intn(2), 4)
	case api.NFn, api.NInst:
		n.Types = k.types(1+k.Intn(2), 4)
	case api.NAs:
		n.Types = k.types(1, 4)
	}
	long := k.Intn(4)
	for i := range n.Kids {
		if i == long {
			n.Kids[i] = k.node(height - 1)
		} else {
			n.Kids[i] = k.node(min(height-1, 1+k.Intn(3)))
		}
	}
	return n
}

func (k maker) module(height int) api.Module {
	var m api.Module
	for range k.Intn(3) {
		m.Imports = append(m.Imports, api.Import{From: k.name(), Names: k.names(1 + k.Intn(3))})
	}
	for range k.Intn(4) {
		d := api.Decl{Name: k.name(), Export: k.Intn(2) == 0, Param: k.name(), Types: k.types(2, 5), Body: k.node(1 + k.Intn(height))}
		for range k.Intn(3) {
			d.Vars = append(d.Vars, api.Var{Name: k.name(), Bound: k.typeOf(3)})
		}
		m.Decls = append(m.Decls, d)
	}
	return m
}

// writer writes modules with as few brackets as may be, and now and then more, and sets the places of all that it writes.
type writer struct {
	*rand.Rand
	out       strings.Builder
	line, col int
}

// put writes tokens, each with something ahead that parts it from the last one, and tells the place of the first.
func (w *writer) put(tokens ...string) (line, col int) {
	for i, token := range tokens {
		w.space([]string{" ", "  ", "\t", "\n", "\r\n ", " # let ?\n", "\n\n#\n\n "}[max(0, w.Intn(18)-11)])
		if i == 0 {
			line, col = w.line, w.col
		}
		w.out.WriteString(token)
		w.col += len(token)
	}
	return line, col
}

func (w *writer) space(s string) {
	w.out.WriteString(s)
	for _, b := range []byte(s) {
		w.col++
		if b == '\n' {
			w.line, w.col = w.line+1, 1
		}
	}
}

// maybe is true one time in so many.
func (w *writer) maybe(times int) bool { return w.Intn(times) == 0 }

// row writes items with a sign between two.
func (w *writer) row(count int, between string, item func(i int)) {
	for i := range count {
		if i > 0 {
			w.put(between)
		}
		item(i)
	}
}

// typed writes a type where the rule of a rank stands: 0 type, 1 alt, 2 prim.
func (w *writer) typed(t api.Type, rank int) {
	own := 2
	switch t.Kind {
	case api.TFun:
		own = 0
	case api.TUnion:
		own = 1
	}
	if own < rank || w.maybe(8) {
		w.put("(")
		defer w.put(")")
	}
	switch t.Kind {
	case api.TFun:
		w.typed(t.Kids[0], 1)
		w.put("->")
		w.typed(t.Kids[1], 0)
	case api.TUnion:
		w.row(len(t.Kids), "|", func(i int) { w.typed(t.Kids[i], 2) })
	case api.TRec:
		w.put("{")
		w.row(len(t.Kids), ",", func(i int) { w.put(t.Names[i], ":"); w.typed(t.Kids[i], 0) })
		w.put("}")
	case api.TVar:
		w.put(t.Name)
	default:
		w.put(strings.Fields("any null bool int str")[t.Kind])
	}
}

// behind writes a type behind a sign; any may be left out, if it may be so there.
func (w *writer) behind(sign string, t api.Type, left bool) {
	if left && t.Kind == api.TAny && w.maybe(2) {
		return
	}
	w.put(sign)
	w.typed(t, 0)
}

// The ranks of expressions, as the grammar's rules have them, from the outermost one on.
const (
	rankExpr = iota
	rankOr
	rankAnd
	rankCmp
	rankCat
	rankSum
	rankTerm
	rankUnary
	rankPost
	rankAtom
)

func rankOf(n api.Node) int {
	switch n.Kind {
	case api.NLet, api.NIf, api.NFn:
		return rankExpr
	case api.NIs, api.NAs:
		return rankCmp
	case api.NNeg, api.NNot:
		return rankUnary
	case api.NCall, api.NSel:
		return rankPost
	case api.NOp:
		for rank, ops := range []string{rankOr: " or ", rankAnd: " and ", rankCmp: " < <= == ", rankCat: " ++ ", rankSum: " + - ^ ", rankTerm: " * / % & << >> "} {
			if strings.Contains(ops, " "+n.Text+" ") {
				return rank
			}
		}
	}
	return rankAtom
}

// expr writes an expression where the rule of a rank stands.
func (w *writer) expr(n *api.Node, rank int) {
	own := rankOf(*n)
	if own < rank || w.maybe(10) {
		w.put("(")
		defer w.put(")")
	}
	switch own {
	case rankExpr:
		w.worded(n)
	case rankPost:
		w.expr(&n.Kids[0], rankPost)
		if n.Kind == api.NSel {
			n.Line, n.Col = w.put(".", n.Text)
			return
		}
		n.Line, n.Col = w.put("(")
		w.expr(&n.Kids[1], rankExpr)
		w.put(")")
	case rankUnary:
		n.Line, n.Col = w.put(map[int]string{api.NNeg: "-", api.NNot: "not"}[n.Kind])
		w.expr(&n.Kids[0], rankUnary)
	case rankAtom:
		w.atom(n)
	default:
		w.ranked(n, own)
	}
}

func (w *writer) worded(n *api.Node) {
	switch n.Kind {
	case api.NLet:
		n.Line, n.Col = w.put("let", n.Text)
		for _, t := range n.Types {
			w.behind(":", t, false)
		}
		w.put("=")
		w.expr(&n.Kids[0], rankExpr)
		w.put(";")
		w.expr(&n.Kids[1], rankExpr)
	case api.NIf:
		n.Line, n.Col = w.put("if")
		w.expr(&n.Kids[0], rankExpr)
		w.put("then")
		w.expr(&n.Kids[1], rankExpr)
		w.put("else")
		w.expr(&n.Kids[2], rankExpr)
	case api.NFn:
		n.Line, n.Col = w.put("fn", "(", n.Text)
		w.behind(":", n.Types[0], true)
		w.put(")")
		if len(n.Types) > 1 {
			w.behind(":", n.Types[1], false)
		}
		w.put("=>")
		w.expr(&n.Kids[0], rankExpr)
	}
}

func (w *writer) ranked(n *api.Node, own int) {
	left := own
	if own == rankCmp {
		left = rankCat
	}
	w.expr(&n.Kids[0], left)
	switch n.Kind {
	case api.NIs:
		n.Line, n.Col = w.put("is", strings.Fields("null bool int str record function")[n.N])
	case api.NAs:
		n.Line, n.Col = w.put("as")
		w.typed(n.Types[0], 0)
	default:
		n.Line, n.Col = w.put(n.Text)
		w.expr(&n.Kids[1], own+1)
	}
}

func (w *writer) atom(n *api.Node) {
	switch n.Kind {
	case api.NInt:
		n.Line, n.Col = w.put(word.Show(n.N))
	case api.NStr:
		n.Line, n.Col = w.put(lex.Quote(n.Text))
	case api.NBool:
		n.Line, n.Col = w.put([]string{"false", "true"}[n.N])
	case api.NNull:
		n.Line, n.Col = w.put("null")
	case api.NName:
		n.Line, n.Col = w.put(n.Text)
	case api.NInst:
		n.Line, n.Col = w.put(n.Text, "[")
		w.row(len(n.Types), ",", func(i int) { w.typed(n.Types[i], 0) })
		w.put("]")
	case api.NPrint:
		n.Line, n.Col = w.put("print", "(")
		w.expr(&n.Kids[0], rankExpr)
		w.put(")")
	case api.NRead:
		n.Line, n.Col = w.put("read", "(", ")")
	case api.NRec:
		n.Line, n.Col = w.put("{")
		w.row(len(n.Kids), ",", func(i int) { w.put(n.Names[i], ":"); w.expr(&n.Kids[i], rankExpr) })
		w.put("}")
	case api.NWith:
		n.Line, n.Col = w.put("{")
		w.expr(&n.Kids[0], rankExpr)
		w.put("with", n.Text, ":")
		w.expr(&n.Kids[1], rankExpr)
		w.put("}")
	}
}

func (w *writer) module(m *api.Module) {
	for i := range m.Imports {
		im := &m.Imports[i]
		im.Line, im.Col = w.put("import", im.From, ":")
		w.row(len(im.Names), ",", func(i int) { w.put(im.Names[i]) })
		w.put(";")
	}
	for i := range m.Decls {
		d := &m.Decls[i]
		if d.Export {
			w.put("export")
		}
		d.Line, d.Col = w.put("fn", d.Name)
		if len(d.Vars) > 0 {
			w.put("[")
			w.row(len(d.Vars), ",", func(i int) { w.put(d.Vars[i].Name); w.behind("<:", d.Vars[i].Bound, true) })
			w.put("]")
		}
		w.put("(", d.Param)
		w.behind(":", d.Types[0], true)
		w.put(")")
		w.behind(":", d.Types[1], true)
		w.put("=")
		w.expr(&d.Body, rankExpr)
		w.put(";")
	}
}

// P5.1, P5.2: modules as they are written, with all places.
func TestWritten(t *testing.T) {
	k := maker{rand.New(rand.NewSource(51))}
	for range 3000 {
		m := k.module(11)
		w := writer{Rand: k.Rand, line: 1, col: 1}
		w.module(&m)
		got, d := Parse(w.out.String())
		if d != (api.Diag{}) || shown(got) != shown(m) {
			t.Fatalf("%s\n%+v, %v, not\n%+v", w.out.String(), got, d, m)
		}
		holdAgain(t, got)
	}
}

// P5.1, P5.2, P5.4: expressions and types as they are written.
func TestWrittenAlone(t *testing.T) {
	k := maker{rand.New(rand.NewSource(52))}
	for range 3000 {
		n, ty := k.node(1+k.Intn(11)), k.typeOf(1+k.Intn(6))
		w := writer{Rand: k.Rand, line: 1, col: 1}
		w.expr(&n, rankExpr)
		got, d := Expr(w.out.String())
		if d != (api.Diag{}) || shown(got) != shown(n) {
			t.Fatalf("%s\n%+v, %v, not\n%+v", w.out.String(), got, d, n)
		}
		w = writer{Rand: k.Rand, line: 1, col: 1}
		w.typed(ty, 0)
		gotType, d := Type(w.out.String())
		if d != (api.Diag{}) || shown(gotType) != shown(ty) {
			t.Fatalf("%s\n%+v, %v, not\n%+v", w.out.String(), gotType, d, ty)
		}
	}
}

// P5.5: what was parsed may be printed, and is parsed to the same again.
func holdAgain(t *testing.T, m api.Module) {
	t.Helper()
	if !tree.May(m) {
		t.Fatalf("%+v may not be printed", m)
	}
	again, d := Parse(tree.Print(m))
	if d.E == api.ErrLong || d.E == api.ErrMany {
		return
	}
	if d != (api.Diag{}) || shown(tree.Bare(again)) != shown(tree.Bare(m)) {
		t.Fatalf("%s\n%+v, %v, not\n%+v", tree.Print(m), again, d, m)
	}
}

// P5.5: modules of all heights that may be printed.
func TestPrinted(t *testing.T) {
	k := maker{rand.New(rand.NewSource(53))}
	for range 2000 {
		holdAgain(t, k.module(api.MaxTree))
	}
}

// P5.5: one Kind within itself as often as may be, and a type as high as may be at the end of it.
func TestPrintedHigh(t *testing.T) {
	k := maker{rand.New(rand.NewSource(54))}
	for _, kind := range []int{api.NLet, api.NFn, api.NCall, api.NRec, api.NSel, api.NWith, api.NIf, api.NIs, api.NAs, api.NOp, api.NNot, api.NNeg, api.NPrint} {
		for slot := range max(1, kidsOf(kind)) {
			for _, high := range []api.Type{highType(0, api.TFun), highType(1, api.TFun), highType(0, api.TUnion), highType(1, api.TUnion), highType(0, api.TRec)} {
				n := api.Node{Kind: api.NInst, Text: "f", Types: []api.Type{high}}
				for range api.MaxTree - 1 {
					n = around(k, kind, slot, n)
				}
				d := api.Decl{Name: "f", Param: "x", Types: []api.Type{high, high}, Vars: []api.Var{{Name: "A", Bound: high}}, Body: n}
				m := api.Module{Decls: []api.Decl{d}}
				holdAgain(t, m)
				if _, diag := Parse(tree.Print(m)); diag != (api.Diag{}) {
					t.Errorf("%d %d: %v", kind, slot, diag)
				}
			}
		}
	}
}

func highType(slot, kind int) api.Type {
	t := leaf(api.TInt)
	for range api.MaxHeight - 1 {
		kids := []api.Type{leaf(api.TInt), leaf(api.TInt)}
		kids[slot] = t
		t = api.Type{Kind: kind, Kids: kids}
		if kind == api.TRec {
			t.Names = []string{"a", "b"}
		}
	}
	return t
}

// around is a node of a Kind with another one in the place of a Kid.
func around(k maker, kind, slot int, inner api.Node) api.Node {
	for {
		n := k.node(2)
		if n.Kind == kind && slot < len(n.Kids) {
			n.Kids[slot] = inner
			return n
		}
	}
}

// P5.5: the edge beyond which what was parsed may not be printed.
func TestPrintable(t *testing.T) {
	m, d := Parse("fn f(x) = " + strings.Repeat("-", 24) + "a;")
	if d != (api.Diag{}) || !tree.May(m) {
		t.Errorf("%v", d)
	}
	m, d = Parse("fn f(x) = " + strings.Repeat("-", 25) + "a;")
	if d != (api.Diag{}) || tree.May(m) {
		t.Errorf("%v", d)
	}
}
