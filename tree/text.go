package tree

import (
	"strings"

	"gradus/api"
	"gradus/lex"
	"gradus/word"
)

var plainNames = [...]string{
	api.TAny:  "any",
	api.TNull: "null",
	api.TBool: "bool",
	api.TInt:  "int",
	api.TStr:  "str",
}

var tagNames = [api.Tags]string{
	api.TagNull: "null",
	api.TagBool: "bool",
	api.TagInt:  "int",
	api.TagStr:  "str",
	api.TagRec:  "record",
	api.TagFun:  "function",
}

var boolNames = [...]string{"false", "true"}

// The functions here are handed what May, isWritten and isExpression let pass, and look at nothing again.

func importText(i api.Import) string {
	return "import " + i.From + ": " + strings.Join(i.Names, ", ") + ";\n"
}

func declText(d api.Decl) string {
	start := "fn "
	if d.Export {
		start = "export fn "
	}
	takes := "(" + d.Param + ": " + typeText(d.Types[0]) + ")"
	return start + d.Name + varsText(d.Vars) + takes + ofType(d.Types[1:]) + " = " + exprText(d.Body) + ";\n"
}

func varsText(vars []api.Var) string {
	if len(vars) == 0 {
		return ""
	}
	return "[" + listText(len(vars), ", ", func(i int) string {
		if vars[i].Bound.Kind == api.TAny {
			return vars[i].Name
		}
		return vars[i].Name + " <: " + typeText(vars[i].Bound)
	}) + "]"
}

func listText(count int, between string, item func(int) string) string {
	items := make([]string, count)
	for i := range items {
		items[i] = item(i)
	}
	return strings.Join(items, between)
}

// fieldsText is a record's, of types or of expressions.
func fieldsText(names []string, kid func(int) string) string {
	return "{" + listText(len(names), ", ", func(i int) string { return names[i] + ": " + kid(i) }) + "}"
}

func typeText(t api.Type) string {
	switch t.Kind {
	case api.TRec:
		return fieldsText(t.Names, func(i int) string { return typeText(t.Kids[i]) })
	case api.TFun:
		takes := t.Kids[0]
		return inBrackets(takes, takes.Kind == api.TFun) + " -> " + typeText(t.Kids[1])
	case api.TUnion:
		return listText(len(t.Kids), " | ", func(i int) string {
			kid := t.Kids[i]
			return inBrackets(kid, kid.Kind == api.TFun || kid.Kind == api.TUnion)
		})
	case api.TVar:
		return t.Name
	}
	return plainNames[t.Kind]
}

func inBrackets(t api.Type, needed bool) string {
	if needed {
		return "(" + typeText(t) + ")"
	}
	return typeText(t)
}

// ofType is what stands behind a name whose type may be left out: the list has none or one.
func ofType(types []api.Type) string {
	if len(types) == 0 {
		return ""
	}
	return ": " + typeText(types[0])
}

func exprText(n api.Node) string {
	kid := func(i int) string { return exprText(n.Kids[i]) }
	switch n.Kind {
	case api.NInt:
		return word.Show(n.N)
	case api.NStr:
		return lex.Quote(n.Text)
	case api.NBool:
		return boolNames[n.N]
	case api.NNull:
		return "null"
	case api.NName:
		return n.Text
	case api.NLet:
		return "(let " + n.Text + ofType(n.Types) + " = " + kid(0) + "; " + kid(1) + ")"
	case api.NFn:
		return "(fn (" + n.Text + ofType(n.Types[:1]) + ")" + ofType(n.Types[1:]) + " => " + kid(0) + ")"
	case api.NCall:
		return kid(0) + "(" + kid(1) + ")"
	case api.NRec:
		return fieldsText(n.Names, kid)
	case api.NSel:
		return kid(0) + "." + n.Text
	case api.NWith:
		return "{" + kid(0) + " with " + n.Text + ": " + kid(1) + "}"
	case api.NIf:
		return "(if " + kid(0) + " then " + kid(1) + " else " + kid(2) + ")"
	case api.NIs:
		return "(" + kid(0) + " is " + tagNames[n.N] + ")"
	case api.NAs:
		return "(" + kid(0) + " as " + typeText(n.Types[0]) + ")"
	case api.NOp:
		return "(" + kid(0) + " " + n.Text + " " + kid(1) + ")"
	case api.NNot:
		return "(not " + kid(0) + ")"
	case api.NNeg:
		return "(-" + kid(0) + ")"
	case api.NPrint:
		return "print(" + kid(0) + ")"
	case api.NRead:
		return "read()"
	case api.NInst:
		return n.Text + "[" + listText(len(n.Types), ", ", func(i int) string { return typeText(n.Types[i]) }) + "]"
	}
	return ""
}
