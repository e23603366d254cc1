package link

import "gradus/api"

// reached is modules by their numbers.
type reached [api.MaxModules]bool

func (k *linker) findCycles() {
	reach := k.reachAll()
	for m, module := range k.linked.Modules {
		for _, i := range module.Imports {
			if reach[k.number[i.From]][m] {
				k.tell(m, i.Line, i.Col, api.ErrCycle)
			}
		}
	}
}

// reachAll tells for each module itself, what it imports, what that imports, and so on. What one imports is worked out once, since its imports may be many.
func (k *linker) reachAll() []reached {
	direct := k.directAll()
	reach := make([]reached, len(direct))
	for m := range direct {
		var visit func(int)
		visit = func(at int) {
			if reach[m][at] {
				return
			}
			reach[m][at] = true
			for from, imported := range direct[at] {
				if imported {
					visit(from)
				}
			}
		}
		visit(m)
	}
	return reach
}

func (k *linker) directAll() []reached {
	direct := make([]reached, len(k.linked.Modules))
	for m, module := range k.linked.Modules {
		for _, i := range module.Imports {
			direct[m][k.number[i.From]] = true
		}
	}
	return direct
}
