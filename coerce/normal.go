package coerce

import (
	"slices"

	"gradus/api"
)

func isId(c *api.Co) bool {
	return slices.Equal(c.Tags, Id().Tags) && len(c.Needs) == 0 && len(c.Names) == 0 && len(c.Fields) == 0 && len(c.Fun) == 0
}

// normalOutside tells whether a coercion is normal, as far as that does not hang on whether those within it are.
func normalOutside(c *api.Co) bool {
	return len(c.Tags) == api.Tags && normalNeeds(c.Needs) && normalFields(c) && normalFun(c)
}

func normalNeeds(needs []api.Need) bool {
	met := map[string]struct{}{}
	for _, need := range needs {
		if _, twice := met[need.Name]; twice || need.Label == 0 {
			return false
		}
		met[need.Name] = struct{}{}
	}
	return true
}

// normalFields and normalFun are asked where there is a label for each tag.
func normalFields(c *api.Co) bool {
	if len(c.Fields) != len(c.Names) || len(c.Names) > 0 && c.Tags[api.TagRec] != 0 {
		return false
	}
	for i, name := range c.Names {
		if i > 0 && c.Names[i-1] >= name || isId(&c.Fields[i]) {
			return false
		}
	}
	return true
}

func normalFun(c *api.Co) bool {
	switch len(c.Fun) {
	case 0:
		return true
	case 2:
		return c.Tags[api.TagFun] == 0 && !(isId(&c.Fun[0]) && isId(&c.Fun[1]))
	}
	return false
}

// sameOutside tells whether two coercions are the same, but for those within them, of which there are as many.
func sameOutside(a, b *api.Co) bool {
	return slices.Equal(a.Tags, b.Tags) && slices.Equal(a.Needs, b.Needs) && slices.Equal(a.Names, b.Names) &&
		len(a.Fields) == len(b.Fields) && len(a.Fun) == len(b.Fun)
}
