package tree

import (
	"math"

	"gradus/api"
	"gradus/lex"
)

const (
	many       = math.MaxInt // where a list may have any number
	firstPlain = 32          // of the bytes below it a string has two alone
)

// What a text may be.
const (
	noText = iota
	nameText
	stringText
	operatorText
)

type span struct{ least, most int }

func (s span) holds(n int) bool {
	return s.least <= n && n <= s.most
}

// nodeForm is what a node may have beside its place. Its N is never below 0; its Names, if it is named, are as many as
// its Kids, else none.
type nodeForm struct {
	text  int
	mostN int
	types span
	kids  span
	named bool
}

var nodeForms = [api.NKinds]nodeForm{
	api.NInt:   {mostN: math.MaxInt},
	api.NStr:   {text: stringText},
	api.NBool:  {mostN: 1},
	api.NNull:  {},
	api.NName:  {text: nameText},
	api.NLet:   {text: nameText, types: span{0, 1}, kids: span{2, 2}},
	api.NFn:    {text: nameText, types: span{1, 2}, kids: span{1, 1}},
	api.NCall:  {kids: span{2, 2}},
	api.NRec:   {kids: span{0, many}, named: true},
	api.NSel:   {text: nameText, kids: span{1, 1}},
	api.NWith:  {text: nameText, kids: span{2, 2}},
	api.NIf:    {kids: span{3, 3}},
	api.NIs:    {mostN: api.Tags - 1, kids: span{1, 1}},
	api.NAs:    {types: span{1, 1}, kids: span{1, 1}},
	api.NOp:    {text: operatorText, kids: span{2, 2}},
	api.NNot:   {kids: span{1, 1}},
	api.NNeg:   {kids: span{1, 1}},
	api.NPrint: {kids: span{1, 1}},
	api.NRead:  {},
	api.NInst:  {text: nameText, types: span{1, many}},
}

// typeForm is what a written type may have: its text is the Name, and its Names are as a node's.
type typeForm struct {
	text  int
	kids  span
	named bool
}

var typeForms = [...]typeForm{
	api.TAny:   {},
	api.TNull:  {},
	api.TBool:  {},
	api.TInt:   {},
	api.TStr:   {},
	api.TRec:   {kids: span{0, many}, named: true},
	api.TFun:   {kids: span{2, 2}},
	api.TUnion: {kids: span{2, many}},
	api.TVar:   {text: nameText},
}

func importFits(i api.Import) bool {
	return lex.Name(i.From) && len(i.Names) > 0 && allOf(i.Names, lex.Name)
}

func declFits(d api.Decl) bool {
	if !lex.Name(d.Name) || !lex.Name(d.Param) || len(d.Types) != 2 {
		return false
	}
	return allOf(d.Types, isWritten) && allOf(d.Vars, varFits) && isExpression(d.Body)
}

func varFits(v api.Var) bool {
	return lex.Name(v.Name) && isWritten(v.Bound)
}

// isExpression looks at the height too, which nothing that is printed may go beyond; so does isWritten.
func isExpression(n api.Node) bool {
	return everyPart(n, api.MaxTree, func(n api.Node) []api.Node { return n.Kids }, nodeFits)
}

func isWritten(t api.Type) bool {
	return everyPart(t, api.MaxHeight, func(t api.Type) []api.Type { return t.Kids }, typeFits)
}

// nodeFits leaves the Kids to others; so does typeFits.
func nodeFits(n api.Node) bool {
	if n.Kind < 0 || n.Kind >= len(nodeForms) {
		return false
	}
	form := nodeForms[n.Kind]
	if n.N < 0 || n.N > form.mostN || !form.types.holds(len(n.Types)) || !form.kids.holds(len(n.Kids)) {
		return false
	}
	return textFits(n.Text, form.text) && namesFit(n.Names, form.named, len(n.Kids)) && allOf(n.Types, isWritten)
}

func typeFits(t api.Type) bool {
	if t.Kind < 0 || t.Kind >= len(typeForms) {
		return false
	}
	form := typeForms[t.Kind]
	return form.kids.holds(len(t.Kids)) && textFits(t.Name, form.text) && namesFit(t.Names, form.named, len(t.Kids))
}

func textFits(text string, may int) bool {
	switch may {
	case nameText:
		return lex.Name(text)
	case stringText:
		return stringFits(text)
	case operatorText:
		return isOperator(text)
	}
	return text == ""
}

func stringFits(text string) bool {
	if len(text) > api.MaxString {
		return false
	}
	for i := range len(text) {
		if text[i] < firstPlain && text[i] != '\n' && text[i] != '\t' {
			return false
		}
	}
	return true
}

func isOperator(text string) bool {
	for _, op := range ops {
		if text == op {
			return true
		}
	}
	return false
}

func namesFit(names []string, named bool, kids int) bool {
	if !named {
		return len(names) == 0
	}
	return len(names) == kids && allOf(names, lex.Name)
}

func allOf[T any](list []T, fits func(T) bool) bool {
	for _, item := range list {
		if !fits(item) {
			return false
		}
	}
	return true
}

// everyPart tells whether a tree and all within it fit, with at most so many within one another.
func everyPart[T any](root T, most int, kids func(T) []T, fits func(T) bool) bool {
	level := [][]T{{root}}
	for height := 0; len(level) > 0; height++ {
		if height == most || !allOf(level, func(parts []T) bool { return allOf(parts, fits) }) {
			return false
		}
		level = nextLevel(level, kids)
	}
	return true
}

// stretch tells lists from one another by where they are: a tree may have the same Kids so often, or within themselves,
// that going through them time and again would not end.
type stretch[T any] struct {
	first  *T
	length int
}

// nextLevel are the Kids, where there are any, of all parts in the lists of a level, each list of them once.
func nextLevel[T any](level [][]T, kids func(T) []T) [][]T {
	var next [][]T
	met := map[stretch[T]]struct{}{}
	for _, parts := range level {
		for _, part := range parts {
			list := kids(part)
			if len(list) == 0 {
				continue
			}
			at := stretch[T]{&list[0], len(list)}
			if _, ok := met[at]; !ok {
				met[at] = struct{}{}
				next = append(next, list)
			}
		}
	}
	return next
}
