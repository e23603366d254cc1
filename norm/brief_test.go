package norm

import (
	"fmt"
	"strings"

	"gradus/api"
)

// brief tells a core in short: a coercion is `[c: kid]`, a cast `(from => to, site: kid)`.
func brief(c api.Core) string {
	kids := make([]string, len(c.Kids))
	for i, kid := range c.Kids {
		kids[i] = brief(kid)
	}
	within := strings.Join(kids, ", ")
	switch c.Kind {
	case api.CInt:
		return fmt.Sprint(c.N)
	case api.CStr:
		return fmt.Sprintf("%q", c.Text)
	case api.CBool:
		return []string{"false", "true"}[c.N]
	case api.CVar:
		return fmt.Sprint("v", c.N)
	case api.CGlobal:
		return fmt.Sprint("g", c.N)
	case api.CCo:
		return "[" + briefCo(c.Cos[0]) + ": " + within + "]"
	case api.CCast:
		return fmt.Sprintf("(%d: %s)", c.N, within)
	case api.CRec:
		for i, name := range c.Names {
			kids[i] = name + ": " + kids[i]
		}
		return "{" + strings.Join(kids, ", ") + "}"
	case api.CSel:
		return within + "." + c.Text
	case api.CWith:
		return "with " + c.Text + "(" + within + ")"
	case api.CNull, api.CRead:
		return names()[c.Kind]
	}
	return names()[c.Kind] + "(" + within + ")"
}

func names() []string {
	return strings.Fields("int str bool null var fn global call rec sel with if is op eq cat not neg let print read cast co make")
}

// briefCo tells each label behind its tag's letter, `a!2` of a field that must be there, `a=c` of one that is coerced,
// `(c ~ d)` of what is taken and answered.
func briefCo(c api.Co) string {
	var l []string
	for tag, label := range c.Tags {
		if label != 0 {
			l = append(l, fmt.Sprint("nbisrf"[tag:tag+1], label))
		}
	}
	for _, need := range c.Needs {
		l = append(l, fmt.Sprint(need.Name, "!", need.Label))
	}
	for i, name := range c.Names {
		l = append(l, name+"="+briefCo(c.Fields[i]))
	}
	if len(c.Fun) > 0 {
		l = append(l, "("+briefCo(c.Fun[0])+" ~ "+briefCo(c.Fun[1])+")")
	}
	if len(l) == 0 {
		return "id"
	}
	return strings.Join(l, " ")
}
