package tree

import (
	"math"
	"math/rand"
	"reflect"
	"slices"
	"strconv"
	"strings"
	"testing"

	"gradus/api"
	"gradus/lex"
	"gradus/word"
)

// maker makes up trees, the same ones each time.
type maker struct{ *rand.Rand }

func (k maker) name() string {
	return []string{"a", "b", "f", "x1", "_", "lets", "A", strings.Repeat("n", 32)}[k.Intn(8)]
}

func (k maker) names(count int) []string {
	out := make([]string, count)
	for i := range out {
		out[i] = k.name()
	}
	return out
}

func (k maker) types(count, height int) []api.Type {
	out := make([]api.Type, count)
	for i := range out {
		out[i] = k.typeOf(height)
	}
	return out
}

func (k maker) typeOf(height int) api.Type {
	if height <= 1 || k.Intn(3) == 0 {
		if k.Intn(4) == 0 {
			return variable(k.name())
		}
		return leaf(k.Intn(5))
	}
	switch k.Intn(3) {
	case 0:
		count := k.Intn(3)
		return api.Type{Kind: api.TRec, Names: k.names(count), Kids: k.types(count, height-1)}
	case 1:
		return api.Type{Kind: api.TFun, Kids: k.types(2, height-1)}
	}
	return api.Type{Kind: api.TUnion, Kids: k.types(2+k.Intn(2), height-1)}
}

// node goes the way of one Kid to the end of the height, so that what is as high as may be does not grow without end.
func (k maker) node(height int) api.Node {
	n := copyAll(samples()[k.Intn(api.NKinds)])
	if height <= 1 {
		for len(n.Kids) > 0 {
			n = copyAll(samples()[k.Intn(api.NKinds)])
		}
	}
	n.Line, n.Col = k.Intn(9)-4, k.Intn(9)-4
	switch n.Kind {
	case api.NInt:
		n.N = []int{0, 1, 10, 987654321, math.MaxInt}[k.Intn(5)]
	case api.NBool, api.NIs:
		n.N = k.Intn(2)
	case api.NStr:
		n.Text = []string{"", "a b", "\"", "\\\n\t", "\x7f\xc3\xa4", strings.Repeat("\"", 256)}[k.Intn(6)]
	case api.NOp:
		n.Text = strings.Fields(allOps)[k.Intn(15)]
	case api.NName, api.NLet, api.NFn, api.NSel, api.NWith, api.NInst:
		n.Text = k.name()
	case api.NRec:
		count := k.Intn(4)
		n.Names, n.Kids = k.names(count), make([]api.Node, count)
	}
	switch n.Kind {
	case api.NLet:
		n.Types = k.types(k.Intn(2), 4)
	case api.NFn, api.NInst:
		n.Types = k.types(1+k.Intn(2), 4)
	case api.NAs:
		n.Types = k.types(1, 4)
	}
	long := k.Intn(4)
	for i := range n.Kids {
		if i == long {
			n.Kids[i] = k.node(height - 1)
		} else {
			n.Kids[i] = k.node(min(height-1, 1+k.Intn(3)))
		}
	}
	return n
}

func (k maker) module() api.Module {
	var m api.Module
	for range k.Intn(3) {
		m.Imports = append(m.Imports, api.Import{From: k.name(), Names: k.names(1 + k.Intn(3)), Line: k.Intn(5), Col: k.Intn(5)})
	}
	for range k.Intn(3) {
		d := api.Decl{Name: k.name(), Export: k.Intn(2) == 0, Param: k.name(), Types: k.types(2, 5), Body: k.node(1 + k.Intn(25)), Line: k.Intn(5), Col: k.Intn(5)}
		for range k.Intn(3) {
			d.Vars = append(d.Vars, api.Var{Name: k.name(), Bound: k.typeOf(3)})
		}
		m.Decls = append(m.Decls, d)
	}
	return m
}

// spoil changes one thing somewhere in a value: mostly it is wrong then, and now and then it is not.
func (k maker) spoil(v reflect.Value) {
	switch v.Kind() {
	case reflect.Int:
		v.SetInt(int64([]int{-1, 0, 1, 2, 5, 6, k.Intn(30), math.MinInt, math.MaxInt}[k.Intn(9)]))
	case reflect.Bool:
		v.SetBool(!v.Bool())
	case reflect.String:
		v.SetString([]string{"", "a", "+", "let", "is", "\x01", "a b", "1", strings.Repeat("n", 33), strings.Repeat("n", 257)}[k.Intn(10)])
	case reflect.Struct:
		k.spoil(v.Field(k.Intn(v.NumField())))
	case reflect.Slice:
		k.spoilList(v)
	}
}

func (k maker) spoilList(v reflect.Value) {
	if v.Len() > 0 && k.Intn(4) > 0 {
		k.spoil(v.Index(k.Intn(v.Len())))
		return
	}
	if v.Len() > 0 && k.Intn(2) == 0 {
		v.Set(v.Slice(0, v.Len()-1))
		return
	}
	item := reflect.New(v.Type().Elem()).Elem()
	if item.Kind() == reflect.String {
		item.SetString("a")
	}
	own := reflect.MakeSlice(v.Type(), 0, v.Len()+1)
	v.Set(reflect.Append(reflect.AppendSlice(own, v), item))
}

func TestMadeUp(t *testing.T) {
	k := maker{rand.New(rand.NewSource(4))}
	right, wrong := 0, 0
	for range 3000 {
		if t.Failed() {
			return // one that is told is enough
		}
		m := k.module()
		if !May(m) {
			t.Fatalf("May(%+v) = false", m)
		}
		holdModule(t, m)
		holdReadBack(t, m)
		for range 3 {
			bad := copyAll(m)
			k.spoil(reflect.ValueOf(&bad).Elem())
			if printable(bad) {
				right++
			} else {
				wrong++
			}
			holdModule(t, bad)
			for _, d := range bad.Decls {
				holdExpr(t, d.Body)
				for _, ty := range d.Types {
					holdType(t, ty)
				}
			}
		}
	}
	for range 3000 {
		ty := k.typeOf(1 + k.Intn(7))
		holdType(t, ty)
		k.spoil(reflect.ValueOf(&ty).Elem())
		holdType(t, ty)
	}
	if right < 500 || wrong < 500 {
		t.Errorf("%d of those that were changed may be printed, %d may not", right, wrong)
	}
}

// holdReadBack reads a module's text by a grammar of its own: whatever brackets were left out would make it another one.
func holdReadBack(t *testing.T, m api.Module) {
	t.Helper()
	tokens, diag := lex.Lex(Print(m))
	if diag.E == api.ErrLong || diag.E == api.ErrMany {
		return
	}
	if diag.E != api.OK {
		t.Fatalf("Lex of %q: %+v", Print(m), diag)
	}
	r := reader{tokens: tokens}
	got := r.module()
	if r.wrong || shown(got) != shown(Bare(m)) {
		t.Errorf("%q is read as %s", Print(m), shown(got))
	}
}

func shown(m api.Module) string {
	var out strings.Builder
	show(&out, reflect.ValueOf(m))
	return out.String()
}

// show tells all of a value, lists that are nil and empty ones alike.
func show(out *strings.Builder, v reflect.Value) {
	switch v.Kind() {
	case reflect.Struct, reflect.Slice:
		out.WriteString("<")
		if v.Kind() == reflect.Struct {
			for i := range v.NumField() {
				show(out, v.Field(i))
			}
		} else {
			for i := range v.Len() {
				show(out, v.Index(i))
			}
		}
		out.WriteString(">")
	case reflect.String:
		out.WriteString(lex.Quote(v.String()))
	case reflect.Int:
		out.WriteString(" " + word.Show(int(v.Int())))
	case reflect.Bool:
		out.WriteString(strconv.FormatBool(v.Bool()))
	}
}

// reader reads tokens of what is printed, and nothing else that the language may have.
type reader struct {
	tokens []api.Token
	wrong  bool
}

func (r *reader) next() api.Token {
	token := r.tokens[0]
	if token.Kind != api.TokEnd {
		r.tokens = r.tokens[1:]
	}
	return token
}

// at tells whether a word or a sign comes next, and passes it then.
func (r *reader) at(text string) bool {
	token := r.tokens[0]
	if token.Text != text || token.Kind != api.TokWord && token.Kind != api.TokSign {
		return false
	}
	r.next()
	return true
}

func (r *reader) must(texts ...string) {
	for _, text := range texts {
		r.wrong = !r.at(text) || r.wrong
	}
}

func (r *reader) name() string {
	token := r.next()
	r.wrong = r.wrong || token.Kind != api.TokName
	return token.Text
}

// fail ends what is read, so that nothing goes on for ever.
func (r *reader) fail() {
	r.wrong = true
	r.tokens = r.tokens[len(r.tokens)-1:]
}

func (r *reader) module() api.Module {
	var m api.Module
	for r.at("import") {
		i := api.Import{From: r.name()}
		r.must(":")
		i.Names = append(i.Names, r.name())
		for r.at(",") {
			i.Names = append(i.Names, r.name())
		}
		r.must(";")
		m.Imports = append(m.Imports, i)
	}
	for !r.wrong && r.tokens[0].Kind != api.TokEnd {
		m.Decls = append(m.Decls, r.decl())
	}
	return m
}

func (r *reader) decl() api.Decl {
	d := api.Decl{Export: r.at("export")}
	r.must("fn")
	d.Name = r.name()
	if r.at("[") {
		for first := true; first || r.at(","); first = false {
			v := api.Var{Name: r.name()}
			if r.at("<:") {
				v.Bound = r.typeOf()
			}
			d.Vars = append(d.Vars, v)
		}
		r.must("]")
	}
	r.must("(")
	d.Param = r.name()
	r.must(":")
	d.Types = append(d.Types, r.typeOf())
	r.must(")", ":")
	d.Types = append(d.Types, r.typeOf())
	r.must("=")
	d.Body = r.expr()
	r.must(";")
	return d
}

func (r *reader) typeOf() api.Type {
	t := r.alone()
	if r.at("|") {
		t = union(t, r.alone())
		for r.at("|") {
			t.Kids = append(t.Kids, r.alone())
		}
	}
	if r.at("->") {
		return function(t, r.typeOf())
	}
	return t
}

func (r *reader) alone() api.Type {
	for kind, text := range strings.Fields("any null bool int str") {
		if r.at(text) {
			return leaf(kind)
		}
	}
	if r.at("(") {
		t := r.typeOf()
		r.must(")")
		return t
	}
	if r.tokens[0].Kind == api.TokName {
		return variable(r.name())
	}
	if !r.at("{") {
		r.fail()
		return api.Type{}
	}
	t := leaf(api.TRec)
	for !r.at("}") && !r.wrong {
		if len(t.Names) > 0 {
			r.must(",")
		}
		t.Names = append(t.Names, r.name())
		r.must(":")
		t.Kids = append(t.Kids, r.typeOf())
	}
	return t
}

func (r *reader) expr() api.Node {
	n := r.first()
	for {
		if r.at("(") {
			n = parent(api.NCall, n, r.expr())
			r.must(")")
		} else if r.at(".") {
			n = texted(api.NSel, r.name(), n)
		} else {
			return n
		}
	}
}

func (r *reader) first() api.Node {
	for text, n := range map[string]api.Node{"true": {Kind: api.NBool, N: 1}, "false": {Kind: api.NBool}, "null": {Kind: api.NNull}} {
		if r.at(text) {
			return n
		}
	}
	switch {
	case r.at("print"):
		r.must("(")
		n := parent(api.NPrint, r.expr())
		r.must(")")
		return n
	case r.at("read"):
		r.must("(", ")")
		return api.Node{Kind: api.NRead}
	case r.at("("):
		n := r.inBrackets()
		r.must(")")
		return n
	case r.at("{"):
		return r.inBraces()
	}
	token := r.next()
	switch token.Kind {
	case api.TokNumber:
		n, _ := word.Parse(token.Text)
		return number(n)
	case api.TokString:
		return quoted(token.Text)
	case api.TokName:
		if !r.at("[") {
			return named(token.Text)
		}
		n := inst(token.Text, r.typeOf())
		for r.at(",") {
			n.Types = append(n.Types, r.typeOf())
		}
		r.must("]")
		return n
	}
	r.fail()
	return api.Node{}
}

func (r *reader) inBrackets() api.Node {
	switch {
	case r.at("let"):
		n := api.Node{Kind: api.NLet, Text: r.name()}
		if r.at(":") {
			n.Types = types(r.typeOf())
		}
		r.must("=")
		n.Kids = append(n.Kids, r.expr())
		r.must(";")
		n.Kids = append(n.Kids, r.expr())
		return n
	case r.at("fn"):
		r.must("(")
		n := api.Node{Kind: api.NFn, Text: r.name()}
		r.must(":")
		n.Types = types(r.typeOf())
		r.must(")")
		if r.at(":") {
			n.Types = append(n.Types, r.typeOf())
		}
		r.must("=>")
		n.Kids = append(n.Kids, r.expr())
		return n
	case r.at("if"):
		n := parent(api.NIf, r.expr())
		r.must("then")
		n.Kids = append(n.Kids, r.expr())
		r.must("else")
		n.Kids = append(n.Kids, r.expr())
		return n
	case r.at("not"):
		return parent(api.NNot, r.expr())
	case r.at("-"):
		return parent(api.NNeg, r.expr())
	}
	return r.ofTwo(r.expr())
}

func (r *reader) ofTwo(left api.Node) api.Node {
	if r.at("as") {
		return as(left, r.typeOf())
	}
	if r.at("is") {
		tag := slices.Index(strings.Fields("null bool int str record function"), r.next().Text)
		return is(tag, left)
	}
	return texted(api.NOp, r.next().Text, left, r.expr())
}

func (r *reader) inBraces() api.Node {
	if r.at("}") {
		return recordOf("")
	}
	if r.tokens[0].Kind != api.TokName || r.tokens[1].Text != ":" {
		n := parent(api.NWith, r.expr())
		r.must("with")
		n.Text = r.name()
		r.must(":")
		n.Kids = append(n.Kids, r.expr())
		r.must("}")
		return n
	}
	n := recordOf("")
	for first := true; first || r.at(","); first = false {
		n.Names = append(n.Names, r.name())
		r.must(":")
		n.Kids = append(n.Kids, r.expr())
	}
	r.must("}")
	return n
}
