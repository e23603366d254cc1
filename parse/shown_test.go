package parse

import (
	"reflect"
	"strconv"
	"strings"

	"gradus/api"
	"gradus/lex"
	"gradus/tree"
	"gradus/word"
)

func shown(v any) string {
	var out strings.Builder
	show(&out, reflect.ValueOf(v))
	return out.String()
}

// show tells all of a value, lists that are nil and empty ones alike.
func show(out *strings.Builder, v reflect.Value) {
	switch v.Kind() {
	case reflect.Struct, reflect.Slice:
		out.WriteString("<")
		if v.Kind() == reflect.Struct {
			for i := range v.NumField() {
				show(out, v.Field(i))
			}
		} else {
			for i := range v.Len() {
				show(out, v.Index(i))
			}
		}
		out.WriteString(">")
	case reflect.String:
		out.WriteString(lex.Quote(v.String()))
	case reflect.Int:
		out.WriteString(" " + word.Show(int(v.Int())))
	case reflect.Bool:
		out.WriteString(strconv.FormatBool(v.Bool()))
	}
}

// sketch tells all of an expression in a short form, its places too.
func sketch(n api.Node) string {
	kinds := strings.Fields("Int Str Bool Null Name Let Fn Call Rec Sel With If Is As Op Not Neg Print Read Inst")
	out := kinds[n.Kind]
	if n.Text != "" {
		out += " " + n.Text
	}
	if n.N != 0 {
		out += " " + word.Show(n.N)
	}
	out += "@" + word.Show(n.Line) + ":" + word.Show(n.Col)
	var types, kids []string
	for _, ty := range n.Types {
		types = append(types, tree.Type(ty))
	}
	for _, kid := range n.Kids {
		kids = append(kids, sketch(kid))
	}
	if types != nil {
		out += "<" + strings.Join(types, "; ") + ">"
	}
	if n.Names != nil {
		out += "{" + strings.Join(n.Names, " ") + "}"
	}
	if kids != nil {
		out += "(" + strings.Join(kids, ", ") + ")"
	}
	return out
}
