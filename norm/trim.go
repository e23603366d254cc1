package norm

import (
	"gradus/api"
	"gradus/coerce"
)

// trimmed is a core whose Kids are trimmed.
func trimmed(c api.Core) api.Core {
	if !isCoerced(&c) {
		return c
	}
	co, kid := c.Cos[0], c.Kids[0]
	for isCoerced(&kid) {
		co, kid = coerce.Compose(kid.Cos[0], co), kid.Kids[0]
	}
	if doesNothing(&co, &kid) {
		return kid
	}
	return coerced(co, kid)
}

// doesNothing tells whether a coercion changes nothing of what a core comes to, as far as the core's kind tells.
func doesNothing(c *api.Co, k *api.Core) bool {
	if coerce.Same(*c, coerce.Id()) {
		return true
	}
	switch k.Kind {
	case api.CNull:
		return lets(c, api.TagNull)
	case api.CBool:
		return lets(c, api.TagBool)
	case api.CInt, api.CRead:
		return lets(c, api.TagInt)
	case api.CStr:
		return lets(c, api.TagStr)
	case api.CFn, api.CGlobal:
		return lets(c, api.TagFun) && len(c.Fun) == 0
	}
	return false
}

// lets tells whether nobody is blamed for a tag. Of what is not normal there may be no labels at all.
func lets(c *api.Co, tag int) bool {
	return tag < len(c.Tags) && c.Tags[tag] == 0
}
