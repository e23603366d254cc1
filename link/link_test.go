package link

import (
	"fmt"
	"reflect"
	"strings"
	"testing"

	"gradus/api"
	"gradus/parse"
)

// sources makes modules of texts, each with its name and a colon ahead.
func sources(texts ...string) []api.Source {
	var l []api.Source
	for _, s := range texts {
		name, text, _ := strings.Cut(s, ": ")
		l = append(l, api.Source{Name: name, Text: text})
	}
	return l
}

func diag(module, line, col int, e api.Errno) api.Diag {
	return api.Diag{Module: module, Line: line, Col: col, E: e}
}

func holdDiags(t *testing.T, l []api.Source, want ...api.Diag) {
	t.Helper()
	p, d := Link(l)
	if !reflect.DeepEqual(d, want) {
		t.Errorf("%q:\ngot  %v\nwant %v", l, d, want)
	}
	if !reflect.DeepEqual(p, api.Linked{}) {
		t.Errorf("%q: beside Diags stands %v", l, p)
	}
}

// holdScopes holds against what is in scope as text: a module's entries with commas between them, "f 1 0" is the function 0 of the module 1.
func holdScopes(t *testing.T, l []api.Source, main string, want ...string) {
	t.Helper()
	p, d := Link(l)
	if len(d) != 0 {
		t.Errorf("%q: %v", l, d)
		return
	}
	show := func(e api.Entry) string { return fmt.Sprint(e.Name, " ", e.Module, " ", e.Decl) }
	var got []string
	for _, s := range p.Scopes {
		var entries []string
		for _, e := range s {
			entries = append(entries, show(e))
		}
		got = append(got, strings.Join(entries, ", "))
	}
	if !reflect.DeepEqual(got, want) || show(p.Main) != main {
		t.Errorf("%q:\ngot  %q, main %s\nwant %q, main %s", l, got, show(p.Main), want, main)
	}
	holdAsGiven(t, l, p)
}

// holdAsGiven: P7.2, Names and Modules are as in l.
func holdAsGiven(t *testing.T, l []api.Source, p api.Linked) {
	t.Helper()
	if len(p.Names) != len(l) || len(p.Modules) != len(l) || len(p.Scopes) != len(l) {
		t.Errorf("%q: %d names, %d modules, %d scopes", l, len(p.Names), len(p.Modules), len(p.Scopes))
		return
	}
	for i, s := range l {
		m, _ := parse.Parse(s.Text)
		if p.Names[i] != s.Name || !reflect.DeepEqual(p.Modules[i], m) {
			t.Errorf("%q: the module %d is %s: %v", l, i, p.Names[i], p.Modules[i])
		}
	}
}

// The chapter's examples.
func TestExamples(t *testing.T) {
	holdScopes(t, sources("main: import a: f; fn main(x) = f(x);", "a: export fn f(x) = x;"), "main 0 0", "f 1 0, main 0 0", "f 1 0")
	holdDiags(t, sources("main: import a: f; fn main(x) = x;", "a: import main: main; export fn f(x) = x;"), diag(1, 1, 1, api.ErrExport))
}

// manyModules has the module main first, and that many in all.
func manyModules(n int) []api.Source {
	l := sources("main: fn main(x) = x;")
	for i := 1; i < n; i++ {
		l = append(l, api.Source{Name: fmt.Sprint("m", i), Text: "export fn f(x) = x;"})
	}
	return l[:n]
}

// P7.1, the first turn: how many there are.
func TestHowMany(t *testing.T) {
	holdDiags(t, nil, diag(0, 1, 1, api.ErrMain))
	holdDiags(t, []api.Source{}, diag(0, 1, 1, api.ErrMain))
	for _, n := range []int{1, 2, 15, 16} {
		p, d := Link(manyModules(n))
		if len(d) != 0 || len(p.Modules) != n {
			t.Error(n, d)
		}
	}
	for _, n := range []int{17, 18, 32, 33, 1000} {
		holdDiags(t, manyModules(n), diag(16, 1, 1, api.ErrMany))
	}
	l := manyModules(17)
	l[0], l[3], l[5].Text, l[16] = api.Source{}, l[2], "fn", api.Source{Name: "let", Text: "?"}
	holdDiags(t, l, diag(16, 1, 1, api.ErrMany))
	holdDiags(t, make([]api.Source, 17), diag(16, 1, 1, api.ErrMany))
	holdDiags(t, l[:16], diag(0, 1, 1, api.ErrName), diag(3, 1, 1, api.ErrTwice), diag(5, 1, 3, api.ErrToken))
	last := manyModules(16)
	last[15] = api.Source{Name: "main", Text: "fn main(x) = x;"}
	holdDiags(t, last, diag(15, 1, 1, api.ErrTwice))
	last[15] = api.Source{Name: "z", Text: "import m1: f; import m14: f;"}
	holdDiags(t, last, diag(15, 1, 15, api.ErrTwice))
	last[0].Text = "import z: f; fn main(x) = x;"
	last[15].Text = "import m1: f;"
	holdDiags(t, last, diag(0, 1, 1, api.ErrExport))
}

// P7.1, the first turn: names that are none.
func TestNames(t *testing.T) {
	good := "fn main(x) = x;"
	for _, name := range []string{"", " ", "1a", "a b", "a-b", "a.b", "é", "a\x00", "main ", " main", "main\n", "let", "record", "any", "in", "\xff", strings.Repeat("n", 33)} {
		holdDiags(t, []api.Source{{Name: "main", Text: good}, {Name: name, Text: ""}}, diag(1, 1, 1, api.ErrName))
		holdDiags(t, []api.Source{{Name: name, Text: good}, {Name: "main", Text: good}}, diag(0, 1, 1, api.ErrName))
		// The same one twice, and with a text that is none: it is no name all the same.
		holdDiags(t, []api.Source{{Name: name, Text: "?"}, {Name: "main", Text: good}, {Name: name, Text: "fn"}}, diag(0, 1, 1, api.ErrName), diag(2, 1, 1, api.ErrName))
	}
	for _, name := range []string{"a", "_", "A1", "Main", "MAIN", "main_", "lets", strings.Repeat("n", 32)} {
		holdScopes(t, []api.Source{{Name: name, Text: ""}, {Name: "main", Text: good}}, "main 1 0", "", "main 1 0")
		holdDiags(t, []api.Source{{Name: name, Text: good}}, diag(0, 1, 1, api.ErrMain))
	}
}

// P7.1, the first turn: names that are there twice, and the order of the three faults.
func TestNamesTwice(t *testing.T) {
	holdDiags(t, sources("main: fn main(x) = x;", "main: fn main(x) = x;"), diag(1, 1, 1, api.ErrTwice))
	holdDiags(t, sources("a: ", "main: fn main(x) = x;", "a: "), diag(2, 1, 1, api.ErrTwice))
	holdDiags(t, sources("a: ", "a: ", "a: "), diag(1, 1, 1, api.ErrTwice), diag(2, 1, 1, api.ErrTwice))
	holdDiags(t, sources("a: ", "b: ", "b: ", "a: ", "b: "), diag(2, 1, 1, api.ErrTwice), diag(3, 1, 1, api.ErrTwice), diag(4, 1, 1, api.ErrTwice))
	// The one ahead counts, whether it can be parsed or not; the later one is not parsed.
	holdDiags(t, sources("a: \n ?", "a: "), diag(0, 2, 2, api.ErrChar), diag(1, 1, 1, api.ErrTwice))
	holdDiags(t, sources("a: ", "a: \n ?"), diag(1, 1, 1, api.ErrTwice))
	holdDiags(t, sources("a: \n fn", "a: \n ?", "a: \n fn"), diag(0, 2, 4, api.ErrToken), diag(1, 1, 1, api.ErrTwice), diag(2, 1, 1, api.ErrTwice))
	// One that has the name twice and no text is no name first.
	holdDiags(t, sources("1: \n ?", "1: \n ?"), diag(0, 1, 1, api.ErrName), diag(1, 1, 1, api.ErrName))
	// Names are told apart byte by byte.
	holdScopes(t, sources("main: fn main(x) = x;", "Main: ", "mai: ", "main1: "), "main 0 0", "main 0 0", "", "", "")
}

// P7.1, the first turn: parse's Diags, with the number of the module.
func TestParseDiags(t *testing.T) {
	long := "fn main(x) = x;" + strings.Repeat(" ", api.MaxText)
	deep := "fn main(x) = " + strings.Repeat("(", 100) + "x" + strings.Repeat(")", 100) + ";"
	for _, text := range []string{"fn", "\n\n  fn f(x) = ;", "?", "fn f(x) =\n\t007;", "\"a", "\n\"a\\q\"", long, deep, strings.Repeat("x ", 8193), "fn " + strings.Repeat("f", 33), "fn f(x) = x; import a: f;"} {
		_, want := parse.Parse(text)
		if want.E == api.OK {
			t.Fatal(text)
		}
		for at := range 16 {
			l := manyModules(16)
			l[at].Text = text
			want.Module = at
			holdDiags(t, l, want)
		}
	}
	// One of each module, and all modules are looked at.
	holdDiags(t, sources("main: fn fn fn", "a: export fn f(x) = x;", "b: ?", "c: ", "d: \n\n ="), diag(0, 1, 4, api.ErrToken), diag(2, 1, 1, api.ErrChar), diag(4, 3, 2, api.ErrToken))
}

// P7.1, the second turn: imports.
func TestImports(t *testing.T) {
	a, b := "a: export fn f(x) = x; fn g(x) = x; export fn h[A](x: A): A = x;", "b: export fn f(x) = x; export fn k(x) = x;"
	end := " fn main(x) = x;"
	for _, c := range []struct {
		text string
		want []api.Diag
	}{
		{"import c: f;", []api.Diag{diag(1, 1, 1, api.ErrModule)}},
		{"import c: f, f, g, main;", []api.Diag{diag(1, 1, 1, api.ErrModule)}},
		{"import c: f; import a: f;", []api.Diag{diag(1, 1, 1, api.ErrModule)}},
		{"import c: f; import c: f;", []api.Diag{diag(1, 1, 1, api.ErrModule), diag(1, 1, 14, api.ErrModule)}},
		{"import A: f;", []api.Diag{diag(1, 1, 1, api.ErrModule)}},
		{"import a: z;", []api.Diag{diag(1, 1, 1, api.ErrExport)}},
		{"import a: z, z;", []api.Diag{diag(1, 1, 1, api.ErrExport), diag(1, 1, 1, api.ErrExport)}},
		{"import a: g;", []api.Diag{diag(1, 1, 1, api.ErrExport)}},
		{"import a: k;", []api.Diag{diag(1, 1, 1, api.ErrExport)}},
		{"import a: x;", []api.Diag{diag(1, 1, 1, api.ErrExport)}},
		{"import a: A;", []api.Diag{diag(1, 1, 1, api.ErrExport)}},
		{"import a: a;", []api.Diag{diag(1, 1, 1, api.ErrExport)}},
		{"import a: F;", []api.Diag{diag(1, 1, 1, api.ErrExport)}},
		{"\n\n   import a: f, g;", []api.Diag{diag(1, 3, 4, api.ErrExport)}},
		{"import a: g, f;", []api.Diag{diag(1, 1, 1, api.ErrExport)}},
		{"import a: f, f;", []api.Diag{diag(1, 1, 1, api.ErrTwice)}},
		{"import a: f, h, f, h;", []api.Diag{diag(1, 1, 1, api.ErrTwice), diag(1, 1, 1, api.ErrTwice)}},
		{"import a: f, f, f;", []api.Diag{diag(1, 1, 1, api.ErrTwice), diag(1, 1, 1, api.ErrTwice)}},
		{"import a: f;\nimport a: f;", []api.Diag{diag(1, 2, 1, api.ErrTwice)}},
		{"import a: f;\n import b: f;", []api.Diag{diag(1, 2, 2, api.ErrTwice)}},
		{"import b: f;\n import a: f;", []api.Diag{diag(1, 2, 2, api.ErrTwice)}},
		{"import a: f, h;\n import b: k, f;", []api.Diag{diag(1, 2, 2, api.ErrTwice)}},
		// What was refused is not in scope: nobody has it twice then.
		{"import a: g, g;", []api.Diag{diag(1, 1, 1, api.ErrExport), diag(1, 1, 1, api.ErrExport)}},
		{"import a: k;\nimport b: k;", []api.Diag{diag(1, 1, 1, api.ErrExport)}},
		{"import b: k;\nimport a: k;", []api.Diag{diag(1, 2, 1, api.ErrExport)}},
		{"import a: f;\nimport a: g, f, z, h;\nimport c: f;\nimport b: h, k, f;", []api.Diag{diag(1, 2, 1, api.ErrExport), diag(1, 2, 1, api.ErrTwice), diag(1, 2, 1, api.ErrExport),
			diag(1, 3, 1, api.ErrModule), diag(1, 4, 1, api.ErrExport), diag(1, 4, 1, api.ErrTwice)}},
	} {
		holdDiags(t, sources(a, "main: "+c.text+end, b), c.want...)
	}
	// Main's own functions, when something else is wrong.
	holdDiags(t, sources(a, "main: import a: z;", b), diag(1, 1, 1, api.ErrExport))
	holdScopes(t, sources(a, "main: import a: f; import b: k; import a: h;"+end, b), "main 1 0", "f 0 0, g 0 1, h 0 2", "f 0 0, k 2 1, h 0 2, main 1 0", "f 2 0, k 2 1")
	holdScopes(t, sources(a, "main: import b: k, f; import a: h;"+end, b), "main 1 0", "f 0 0, g 0 1, h 0 2", "k 2 1, f 2 0, h 0 2, main 1 0", "f 2 0, k 2 1")
}

// P7.1, the second turn: the first function of a name counts, exported or not.
func TestExportTwice(t *testing.T) {
	first, second := "export fn f(x) = x;\nfn f(x) = x;", "fn f(x) = x;\nexport fn f(x) = x;"
	both, neither := "export fn f(x) = x;\nexport fn f(x) = x;", "fn f(x) = x;\nfn f(x) = x;"
	main := "main: import a: f; fn main(x) = x;"
	holdDiags(t, sources(main, "a: "+first), diag(1, 2, 1, api.ErrTwice))
	holdDiags(t, sources(main, "a: "+both), diag(1, 2, 8, api.ErrTwice))
	holdDiags(t, sources(main, "a: "+second), diag(0, 1, 1, api.ErrExport), diag(1, 2, 8, api.ErrTwice))
	holdDiags(t, sources(main, "a: "+neither), diag(0, 1, 1, api.ErrExport), diag(1, 2, 1, api.ErrTwice))
	// One that is just imported there is none of that module's.
	holdDiags(t, sources(main, "a: import b: f;", "b: export fn f(x) = x;"), diag(0, 1, 1, api.ErrExport))
	// A function that is refused in its own module is one of that module's all the same.
	holdDiags(t, sources(main, "a: import b: f;\nexport fn f(x) = x;", "b: export fn f(x) = x;"), diag(1, 2, 8, api.ErrTwice))
}

// P7.1, the second turn: functions whose name is in scope.
func TestFunctionsTwice(t *testing.T) {
	a := "a: export fn f(x) = x; export fn g(x) = x;"
	holdDiags(t, sources("main: import a: f;\n fn main(x) = x;\n fn f(x) = x;", a), diag(0, 3, 2, api.ErrTwice))
	holdDiags(t, sources("main: import a: f;\n fn f(x) = x;\n fn main(x) = x;\n export fn f(x) = x;", a), diag(0, 2, 2, api.ErrTwice), diag(0, 4, 9, api.ErrTwice))
	holdDiags(t, sources("main: fn main(x) = x;\nfn main(x) = x;\nexport fn main(x) = x;"), diag(0, 2, 1, api.ErrTwice), diag(0, 3, 8, api.ErrTwice))
	holdDiags(t, sources("main: fn f(x) = x; fn main(x) = x;\nfn f(x) = x;"), diag(0, 2, 1, api.ErrTwice))
	holdDiags(t, sources("main: import a: f, g;\nfn g(x) = x;\nfn f(x) = x;\nfn main(x) = x;", a), diag(0, 2, 1, api.ErrTwice), diag(0, 3, 1, api.ErrTwice))
	// What was not imported is free.
	holdDiags(t, sources("main: import a: z; import b: f;\nfn z(x) = x;\nfn f(x) = x; fn main(x) = x;", a), diag(0, 1, 1, api.ErrExport), diag(0, 1, 14, api.ErrModule))
	// Names within a function, of modules and of variables are no functions' names.
	holdScopes(t, sources("main: import a: f; fn main(x) = x; fn x(f) = let main = f; main; fn a[g](a: g): g = a;", a), "main 0 0", "f 1 0, main 0 0, x 0 1, a 0 2", "f 1 0, g 1 1")
}

// P7.1, the second turn: each module has a scope of its own, and is looked at in order.
func TestSecondTurnOrder(t *testing.T) {
	a := "a: import b: z;\nexport fn f(x) = x; fn f(x) = x;\nfn f(x) = x;"
	b := "b: import c: f;\nimport a: f, f;\nexport fn f(x) = x;"
	holdDiags(t, sources(a, b), diag(0, 1, 1, api.ErrExport), diag(0, 2, 21, api.ErrTwice), diag(0, 3, 1, api.ErrTwice),
		diag(1, 1, 1, api.ErrModule), diag(1, 2, 1, api.ErrTwice), diag(1, 3, 8, api.ErrTwice))
	holdDiags(t, sources(b, a), diag(0, 1, 1, api.ErrModule), diag(0, 2, 1, api.ErrTwice), diag(0, 3, 8, api.ErrTwice),
		diag(1, 1, 1, api.ErrExport), diag(1, 2, 21, api.ErrTwice), diag(1, 3, 1, api.ErrTwice))
	holdScopes(t, sources("a: fn f(x) = x; fn g(x) = x;", "main: fn g(x) = x; fn main(x) = x; fn f(x) = x;"), "main 1 1", "f 0 0, g 0 1", "g 1 0, main 1 1, f 1 2")
}

// exporter is a module with an import, on a line of its own, from each of the others.
func exporter(name string, imports ...string) string {
	s := name + ": "
	for _, from := range imports {
		s += "import " + from + ": f_" + from + ";\n"
	}
	return s + "export fn f_" + name + "(x) = x; fn main(x) = x;"
}

// P7.1, the third turn.
func TestCycles(t *testing.T) {
	cycle := func(m, line int) api.Diag { return diag(m, line, 1, api.ErrCycle) }
	main := exporter("main")
	// Two, in either order.
	holdDiags(t, sources(exporter("main", "a"), exporter("a", "main")), cycle(0, 1), cycle(1, 1))
	holdDiags(t, sources(exporter("a", "b"), main, exporter("b", "a")), cycle(0, 1), cycle(2, 1))
	// Three.
	holdDiags(t, sources(exporter("main", "a"), exporter("a", "b"), exporter("b", "main")), cycle(0, 1), cycle(1, 1), cycle(2, 1))
	holdDiags(t, sources(exporter("b", "main"), exporter("main", "a"), exporter("a", "b")), cycle(0, 1), cycle(1, 1), cycle(2, 1))
	// One that leads into a ring, and one that a ring leads to.
	holdDiags(t, sources(exporter("main", "a"), exporter("a", "b"), exporter("b", "a")), cycle(1, 1), cycle(2, 1))
	holdDiags(t, sources(exporter("c", "main", "a"), exporter("main", "a"), exporter("a", "b"), exporter("b", "a")), cycle(2, 1), cycle(3, 1))
	holdDiags(t, sources(exporter("main", "c", "a"), exporter("a", "main", "c"), exporter("c")), cycle(0, 2), cycle(1, 1))
	// Two rings, and one that leads from the one to the other.
	holdDiags(t, sources(main, exporter("a", "b"), exporter("b", "a"), exporter("c", "d"), exporter("d", "c")), cycle(1, 1), cycle(2, 1), cycle(3, 1), cycle(4, 1))
	holdDiags(t, sources(main, exporter("a", "b"), exporter("b", "c", "a"), exporter("c", "d"), exporter("d", "c")), cycle(1, 1), cycle(2, 2), cycle(3, 1), cycle(4, 1))
	// Two rings with one module in both.
	holdDiags(t, sources(main, exporter("a", "b", "c"), exporter("b", "a"), exporter("c", "a")), cycle(1, 1), cycle(1, 2), cycle(2, 1), cycle(3, 1))
	// A ring within a ring: the import of the inner one is in it by another way, too.
	holdDiags(t, sources(main, exporter("a", "b", "c"), exporter("b", "c"), exporter("c", "a")), cycle(1, 1), cycle(1, 2), cycle(2, 1), cycle(3, 1))
	// Two imports of one module in a ring.
	holdDiags(t, sources("main: import a: f;\n import a: g;\nexport fn main(x) = x;", "a: import main: main;\nexport fn f(x) = x; export fn g(x) = x;"), diag(0, 1, 1, api.ErrCycle), diag(0, 2, 2, api.ErrCycle), cycle(1, 1))
	// Two names of one import: told once.
	holdDiags(t, sources("main: import a: f, g;\nexport fn main(x) = x;", "a: import main: main;\nexport fn f(x) = x; export fn g(x) = x;"), cycle(0, 1), cycle(1, 1))
	// The same module by two ways is no ring.
	holdScopes(t, sources("main: import a: f;\nimport b: g; fn main(x) = x;", "a: import c: h; export fn f(x) = x;", "b: import c: h; export fn g(x) = x;", "c: export fn h(x) = x;"),
		"main 0 0", "f 1 0, g 2 0, main 0 0", "h 3 0, f 1 0", "h 3 0, g 2 0", "h 3 0")
}

// P7.1: a module that imports itself has the name twice, or does not export it, ahead of the third turn.
func TestImportsItself(t *testing.T) {
	holdDiags(t, sources("main: import main: main;\n export fn main(x) = x;"), diag(0, 2, 9, api.ErrTwice))
	holdDiags(t, sources("main: import main: main;\n fn main(x) = x;"), diag(0, 1, 1, api.ErrExport))
	holdDiags(t, sources("main: import main: f;\n fn main(x) = x;"), diag(0, 1, 1, api.ErrExport))
	holdDiags(t, sources("main: fn main(x) = x;", "a: import a: f, g;\nexport fn f(x) = x;\nexport fn g(x) = x;"), diag(1, 2, 8, api.ErrTwice), diag(1, 3, 8, api.ErrTwice))
}

// P7.1, the third turn: rings of all sizes, and rows without any.
func TestLongRings(t *testing.T) {
	name := func(i int) string { return fmt.Sprint("m", i) }
	for n := 2; n <= 16; n++ {
		var row, ring, rising []string
		var all []api.Diag
		for i := range n {
			ring = append(ring, exporter(name(i), name((i+1)%n)))
			all = append(all, diag(i, 1, 1, api.ErrCycle))
			if i == n-1 {
				row = append(row, exporter("main"))
				rising = append(rising, strings.Replace(exporter(name(i), name(i-1)), name(i)+":", "main:", 1))
			} else if i == n-2 {
				row = append(row, exporter(name(i), "main"))
			} else {
				row = append(row, exporter(name(i), name(i+1)))
			}
			if i == 0 {
				rising = append(rising, exporter(name(i)))
			} else if i < n-1 {
				rising = append(rising, exporter(name(i), name(i-1)))
			}
		}
		holdDiags(t, sources(ring...), all...)
		for _, l := range [][]string{row, rising} {
			if p, d := Link(sources(l...)); len(d) != 0 || p.Main != (api.Entry{Name: "main", Module: n - 1, Decl: 1}) {
				t.Error(n, l, p.Main, d)
			}
		}
	}
}

// P7.1, the fourth turn.
func TestMain(t *testing.T) {
	holdDiags(t, sources("a: \n\n fn main(x) = x;"), diag(0, 1, 1, api.ErrMain))
	holdDiags(t, sources("a: fn main(x) = x;", "b: fn main(x) = x;"), diag(0, 1, 1, api.ErrMain))
	holdDiags(t, sources("main: "), diag(0, 1, 1, api.ErrMain))
	holdDiags(t, sources("a: fn main(x) = x;", "main: \n\n fn f(x) = x;"), diag(1, 1, 1, api.ErrMain))
	holdDiags(t, sources("a: fn main(x) = x;", "main: \n\n fn Main(x) = x;"), diag(1, 1, 1, api.ErrMain))
	holdDiags(t, sources("a: ", "b: ", "main: import c: main; fn f(x) = x;", "c: export fn main(x) = x;"), diag(2, 1, 1, api.ErrMain))
	holdDiags(t, sources("main: \n  fn main[A](x) = x;"), diag(0, 2, 3, api.ErrMain))
	holdDiags(t, sources("a: ", "main: fn f(x) = x;\n export fn main[A, B <: int](x: A): B = x;"), diag(1, 2, 9, api.ErrMain))
	holdScopes(t, sources("a: fn main[A](x) = x;", "main: fn f[A](x) = x; export fn main(x: int): {} = x;"), "main 1 1", "main 0 0", "f 1 0, main 1 1")
	holdScopes(t, sources("main: fn main(x) = x;"), "main 0 0", "main 0 0")
	holdScopes(t, sources("a: import main: main; fn f(x) = x;", "main: fn a(x) = x; fn b(x) = x; export fn main(x) = x;"), "main 1 2", "main 1 2, f 0 0", "a 1 0, b 1 1, main 1 2")
}

// P7.1: just the first turn's Diags are told, and all of them, where two have something wrong in each.
func TestTurns(t *testing.T) {
	first, second, third, fourth := "a: fn", "b: import z: f;\nfn f(x) = x; fn f(x) = x;", []string{exporter("c", "d"), exporter("d", "c")}, "main: fn main[A](x) = x;"
	holdDiags(t, sources(first, "1: "), diag(0, 1, 3, api.ErrToken), diag(1, 1, 1, api.ErrName))
	holdDiags(t, sources(first, second, "1: "), diag(0, 1, 3, api.ErrToken), diag(2, 1, 1, api.ErrName))
	holdDiags(t, sources(second, first), diag(1, 1, 3, api.ErrToken))
	holdDiags(t, sources(third[0], third[1], first), diag(2, 1, 3, api.ErrToken))
	holdDiags(t, sources(fourth, first), diag(1, 1, 3, api.ErrToken))
	holdDiags(t, sources(first), diag(0, 1, 3, api.ErrToken))
	twice := []api.Diag{diag(2, 1, 1, api.ErrModule), diag(2, 2, 14, api.ErrTwice)}
	holdDiags(t, sources(third[0], third[1], second), twice...)
	holdDiags(t, sources("e: ", fourth, second), twice...)
	holdDiags(t, sources("e: ", "f: ", second), twice...)
	holdDiags(t, sources(third[0], fourth, third[1]), diag(0, 1, 1, api.ErrCycle), diag(2, 1, 1, api.ErrCycle))
	holdDiags(t, sources(third...), diag(0, 1, 1, api.ErrCycle), diag(1, 1, 1, api.ErrCycle))
	holdDiags(t, sources(third[0], third[1], "main: "), diag(0, 1, 1, api.ErrCycle), diag(1, 1, 1, api.ErrCycle))
	holdDiags(t, sources(fourth), diag(0, 1, 1, api.ErrMain))
	// An import of a name that a wrong module would have.
	holdDiags(t, sources("main: import a: f; fn main(x) = x;", "a: export fn f(x) = ;"), diag(1, 1, 18, api.ErrToken))
}
