package check

import (
	"strings"

	"gradus/api"
	"gradus/inst"
	"gradus/types"
)

// program is what has become of the modules so far.
type program struct {
	linked    api.Linked
	scopes    []map[string]origin // of each module: what a name is there
	numbers   map[origin]int      // of functions without variables for types
	funs      []function
	instances *inst.Table
	sites     []api.Site
}

// origin is where a function was written: the function decl of the module module.
type origin struct{ module, decl int }

// function is one of the program. Of an instance, with has the types in the place of its variables.
type function struct {
	from    origin
	written *api.Decl
	vars    []string
	with    []api.Type
	is      api.Type
	e       api.Errno // why it has no type
}

func newProgram(l api.Linked) *program {
	p := &program{linked: l, numbers: map[origin]int{}}
	for _, entries := range l.Scopes {
		scope := make(map[string]origin, len(entries))
		for _, e := range entries {
			scope[e.Name] = origin{e.Module, e.Decl}
		}
		p.scopes = append(p.scopes, scope)
	}
	return p
}

// addPlain gives numbers to the functions without variables for types; those that are left are for instances.
func (p *program) addPlain() api.Diag {
	for m, module := range p.linked.Modules {
		for i, d := range module.Decls {
			if len(d.Vars) > 0 {
				continue
			}
			if len(p.funs) == api.MaxFuns {
				return wrong(api.Site{Module: m, Line: d.Line, Col: d.Col}, api.ErrMany)
			}
			p.numbers[origin{m, i}] = len(p.funs)
			p.funs = append(p.funs, p.newFunction(origin{m, i}, nil))
		}
	}
	p.instances = inst.New(api.MaxFuns - len(p.funs))
	return api.Diag{}
}

// addInstance is the number of an instance, which is a function of the program from now on.
func (p *program) addInstance(from origin, with []api.Type) (int, api.Errno) {
	f := p.newFunction(from, with)
	if f.e != api.OK {
		return 0, f.e
	}
	n, e := p.instances.Add(api.Instance{Module: from.module, Decl: from.decl, Types: with})
	if e != api.OK {
		return 0, e
	}
	n += len(p.numbers)
	if n == len(p.funs) {
		p.funs = append(p.funs, f)
	}
	return n, api.OK
}

func (p *program) addSite(at api.Site) int {
	p.sites = append(p.sites, at)
	return len(p.sites) - 1
}

func (p *program) mainNumber() int {
	return p.numbers[origin{p.linked.Main.Module, p.linked.Main.Decl}]
}

func (p *program) writtenAt(from origin) *api.Decl {
	return &p.linked.Modules[from.module].Decls[from.decl]
}

func (p *program) newFunction(from origin, with []api.Type) function {
	f := function{from: from, written: p.writtenAt(from), with: with}
	for _, v := range f.written.Vars {
		f.vars = append(f.vars, v.Name)
	}
	f.is, f.e = f.makeType()
	return f
}

func (f *function) makeType() (api.Type, api.Errno) {
	takes, e := f.resolve(f.written.Types[0])
	if e != api.OK {
		return api.Type{}, e
	}
	answers, e := f.resolve(f.written.Types[1])
	if e != api.OK {
		return api.Type{}, e
	}
	return types.Norm(functionType(takes, answers))
}

func (f *function) resolve(t api.Type) (api.Type, api.Errno) {
	return inst.Resolve(t, f.vars, f.with)
}

func (p *program) nameOf(f *function) string {
	name := p.linked.Names[f.from.module] + "." + f.written.Name
	if len(f.with) == 0 {
		return name
	}
	shown := make([]string, len(f.with))
	for i, t := range f.with {
		shown[i] = types.Show(t)
	}
	return name + "[" + strings.Join(shown, ", ") + "]"
}
