package link

import "gradus/api"

// scope is what is in scope in one module, in the order in which it came.
type scope struct {
	entries []api.Entry
	names   map[string]struct{}
}

// add tells whether the name was free.
func (s *scope) add(e api.Entry) bool {
	if _, there := s.names[e.Name]; there {
		return false
	}
	s.names[e.Name] = struct{}{}
	s.entries = append(s.entries, e)
	return true
}

func (k *linker) scopeAll() {
	for m, module := range k.linked.Modules {
		s := &scope{names: map[string]struct{}{}}
		for _, i := range module.Imports {
			k.scopeImport(s, m, i)
		}
		for i, f := range module.Decls {
			if !s.add(api.Entry{Name: f.Name, Module: m, Decl: i}) {
				k.tell(m, f.Line, f.Col, api.ErrTwice)
			}
		}
		k.linked.Scopes = append(k.linked.Scopes, s.entries)
	}
}

func (k *linker) scopeImport(s *scope, m int, i api.Import) {
	from, there := k.number[i.From]
	if !there {
		k.tell(m, i.Line, i.Col, api.ErrModule)
		return
	}
	for _, name := range i.Names {
		f, there := k.firsts[from][name]
		if !there || !k.linked.Modules[from].Decls[f].Export {
			k.tell(m, i.Line, i.Col, api.ErrExport)
		} else if !s.add(api.Entry{Name: name, Module: from, Decl: f}) {
			k.tell(m, i.Line, i.Col, api.ErrTwice)
		}
	}
}
