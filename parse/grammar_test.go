package parse

import (
	"math/rand"
	"slices"
	"strings"
	"testing"

	"gradus/api"
	"gradus/lex"
)

// The chapter's grammar, as it stands there: from it the tests work out by themselves which tokens may go on.
const grammarText = `
module = { "import" NAME ":" NAME { "," NAME } ";" }
         { [ "export" ] "fn" NAME [ "[" var { "," var } "]" ] "(" NAME [ ":" type ] ")" [ ":" type ] "=" expr ";" } END
var    = NAME [ "<:" type ]
type   = alt [ "->" type ]
alt    = prim { "|" prim }
prim   = "any" | "null" | "bool" | "int" | "str" | NAME
       | "{" [ NAME ":" type { "," NAME ":" type } ] "}" | "(" type ")"
expr   = "let" NAME [ ":" type ] "=" expr ";" expr
       | "if" expr "then" expr "else" expr
       | "fn" "(" NAME [ ":" type ] ")" [ ":" type ] "=>" expr
       | or
or     = and { "or" and }
and    = cmp { "and" cmp }
cmp    = cat [ ( "<" | "<=" | "==" ) cat | "is" tag | "as" type ]
tag    = "null" | "bool" | "int" | "str" | "record" | "function"
cat    = sum { "++" sum }
sum    = term { ( "+" | "-" | "^" ) term }
term   = unary { ( "*" | "/" | "%" | "&" | "<<" | ">>" ) unary }
unary  = "-" unary | "not" unary | post
post   = atom { "(" expr ")" | "." NAME }
atom   = NUMBER | STRING | "true" | "false" | "null"
       | "print" "(" expr ")" | "read" "(" ")"
       | NAME [ "[" type { "," type } "]" ]
       | "(" expr ")"
       | "{" [ NAME ":" expr { "," NAME ":" expr } ] "}" | "{" expr "with" NAME ":" expr "}"
wholeexpr = expr END
wholetype = type END
`

// grammar has the rows that each rule may be. A part of a row is a rule's name, a kind of tokens, or a text with a quote ahead.
type grammar struct {
	rows map[string][][]string
	made int
}

func readGrammar() *grammar {
	g := &grammar{rows: map[string][][]string{}}
	words := strings.Fields(grammarText)
	for len(words) > 0 {
		name := words[0]
		g.rows[name], words = g.choices(words[2:])
	}
	return g
}

// choices reads rows up to what ends them: a bracket, or the next rule.
func (g *grammar) choices(words []string) ([][]string, []string) {
	rows := [][]string{nil}
	for len(words) > 0 {
		word := words[0]
		if strings.Contains(")]}", word) || len(words) > 1 && words[1] == "=" {
			break
		}
		words = words[1:]
		last := len(rows) - 1
		switch {
		case word == "|":
			rows = append(rows, nil)
		case strings.Contains("([{", word):
			var inner [][]string
			inner, words = g.choices(words)
			rows[last] = append(rows[last], g.group(word, inner))
			words = words[1:]
		default:
			rows[last] = append(rows[last], strings.TrimSuffix(word, `"`))
		}
	}
	return rows, words
}

// group makes a rule of what stands in brackets.
func (g *grammar) group(bracket string, inner [][]string) string {
	g.made++
	name := "group" + strings.Repeat("'", g.made)
	if bracket == "{" {
		for i, row := range inner {
			inner[i] = append([]string{name}, row...)
		}
	}
	if bracket != "(" {
		inner = append(inner, nil)
	}
	g.rows[name] = inner
	return name
}

// item is a row of a rule of which the parts up to a dot are read, begun at a token.
type item struct {
	rule           string
	row, dot, from int
}

// chart has, for each count of tokens, all that may be under way behind them: where nothing is, nothing goes on.
type chart struct {
	g    *grammar
	sets [][]item
}

// newChart is the chart of no token, of a rule that has one row.
func newChart(g *grammar, rule string) chart {
	c := chart{g: g}
	c.sets = [][]item{c.close([]item{{rule: rule}}, 0)}
	return c
}

// with is the chart of one token more, and whether it may stand there.
func (c chart) with(token api.Token) (chart, bool) {
	var set []item
	for _, it := range c.sets[len(c.sets)-1] {
		if part, ok := c.part(it); ok && fits(part, token) {
			it.dot++
			set = append(set, it)
		}
	}
	set = c.close(set, len(c.sets))
	return chart{g: c.g, sets: append(slices.Clip(c.sets), set)}, len(set) > 0
}

func (c chart) part(it item) (string, bool) {
	row := c.g.rows[it.rule][it.row]
	if it.dot == len(row) {
		return "", false
	}
	return row[it.dot], true
}

// close adds all that begins at the token, and all that goes on since a rule is read whole.
func (c chart) close(begun []item, at int) []item {
	var set []item
	known := map[item]struct{}{}
	add := func(it item) {
		if _, ok := known[it]; !ok {
			known[it] = struct{}{}
			set = append(set, it)
		}
	}
	for _, it := range begun {
		add(it)
	}
	for i := 0; i < len(set); i++ {
		it := set[i]
		part, ok := c.part(it)
		if !ok && it.from < at {
			c.goOn(c.sets[it.from], it.rule, add)
		}
		for row := range c.g.rows[part] {
			add(item{rule: part, row: row, from: at})
		}
		if c.g.empty(part) {
			it.dot++
			add(it)
		}
	}
	return set
}

func (c chart) goOn(waiting []item, rule string, add func(item)) {
	for _, it := range waiting {
		if part, ok := c.part(it); ok && part == rule {
			it.dot++
			add(it)
		}
	}
}

// empty tells whether a rule may be nothing: here just groups, by a row of their own.
func (g *grammar) empty(rule string) bool {
	return slices.ContainsFunc(g.rows[rule], func(row []string) bool { return len(row) == 0 })
}

func fits(part string, token api.Token) bool {
	switch part {
	case "NAME":
		return token.Kind == api.TokName
	case "NUMBER":
		return token.Kind == api.TokNumber
	case "STRING":
		return token.Kind == api.TokString
	case "END":
		return token.Kind == api.TokEnd
	}
	return (token.Kind == api.TokWord || token.Kind == api.TokSign) && part == `"`+token.Text
}

// judge is the Diag that a text has by the grammar, as long as nothing is too deep.
func judge(g *grammar, rule, text string) api.Diag {
	tokens, diag := lex.Lex(text)
	if diag.E != api.OK {
		return diag
	}
	c := newChart(g, rule)
	for _, token := range tokens {
		var ok bool
		if c, ok = c.with(token); !ok {
			return api.Diag{Line: token.Line, Col: token.Col, E: api.ErrToken}
		}
	}
	return api.Diag{}
}

// calls has the three calls, each by the name of its rule.
func calls() map[string]func(string) (any, api.Diag) {
	return map[string]func(string) (any, api.Diag){
		"module":    func(s string) (any, api.Diag) { m, d := Parse(s); return m, d },
		"wholeexpr": func(s string) (any, api.Diag) { n, d := Expr(s); return n, d },
		"wholetype": func(s string) (any, api.Diag) { ty, d := Type(s); return ty, d },
	}
}

// noughts are what a call answers beside a Diag.
func noughts() map[string]any {
	return map[string]any{"module": api.Module{}, "wholeexpr": api.Node{}, "wholetype": api.Type{}}
}

// Every rule of the grammar and every alternative of it, with each list of one and of more.
func goodTexts() map[string][]string {
	return map[string][]string{
		"module": {
			"",
			"import a : b ; import c : d , e , f ;",
			"fn f ( x ) = x ;",
			"export fn f ( x : int ) : str = x ; fn g ( y ) = 1 ;",
			"import a : b ; fn f [ A ] ( x : A ) = x ; export fn g [ A <: int , B , C <: A -> B ] ( x ) : any = x ;",
			"fn f ( x ) = let y = 1 ; y ; fn g ( x ) = fn ( y ) => x ;",
		},
		"wholeexpr": {
			"let x = 1 ; x", "let x : int | null = 1 ; let y = x ; y",
			"if a then b else c", "if if a then b else c then if d then e else f else g",
			"fn ( x ) => x", "fn ( x : int ) => x", "fn ( x ) : str => x", "fn ( x : A ) : B => fn ( y ) => y",
			"a or b or c", "a and b and c", "a < b", "a <= b", "a == b",
			"a is null", "a is bool", "a is int", "a is str", "a is record", "a is function",
			"a as any", "a as int -> int", "a as { } or b as ( int )",
			"a ++ b ++ c", "a + b - c ^ d", "a * b / c % d & e << f >> g",
			"- a", "not a", "- - not - a", "- a * - b + not c",
			"f ( x ) ( y ) . a . b ( z )", "1 . a", "1", `"s"`, "true", "false", "null",
			"print ( a )", "print ( let x = 1 ; x ) . a", "read ( )", "read ( ) . a ( b )",
			"f [ int ]", "f [ int , str , { a : B } ] ( x )",
			"( a )", "( ( let x = 1 ; x ) ) ( y )", "( a or b ) and ( c < d ) < e",
			"{ }", "{ a : 1 }", "{ a : 1 , b : let x = 1 ; x , c : { } }",
			"{ a with b : 1 }", "{ ( a ) with b : let x = 1 ; x }", "{ { a : 1 } with b : { } } . a", "{ a or b with c : d }",
			"a or b and c < d ++ e + f * - g ( h )", "a * b + c ++ d == e and f or g",
		},
		"wholetype": {
			"any", "null", "bool", "int", "str", "A", "{ }", "{ a : int }", "{ a : int , b : { c : str | A } , d : any }",
			"( int )", "int | null", "int | ( str | null ) | { }", "int -> str", "int -> str -> A", "( int -> str ) -> A",
			"int | null -> str | ( A -> B )", "( ( A ) ) | ( { } )",
		},
	}
}

// allTokens has one of each that a text may have.
func allTokens() []string {
	signs := strings.Fields("-> => <: << <= >> == ++ ( ) { } [ ] , : ; = + - * / % & ^ < | .")
	all := append(append(lex.Words(), signs...), "x", "7", `"s"`)
	// Strings that say what words and signs do.
	for _, s := range strings.Fields("or ( ) { } , ; : = + . let fn import x with -> |") {
		all = append(all, lex.Quote(s))
	}
	return all
}

func tokenOf(text string) api.Token {
	tokens, _ := lex.Lex(text)
	return tokens[0]
}

// The document is what the reading of the grammar is held against, ahead of all that is held against it.
func TestGrammarAsRead(t *testing.T) {
	g := readGrammar()
	for rule, texts := range goodTexts() {
		for _, text := range texts {
			if d := judge(g, rule, text); d != (api.Diag{}) {
				t.Errorf("%s %q: %v", rule, text, d)
			}
		}
	}
	for text, col := range map[string]int{"a < b < c": 7, "a b": 3, "1 +": 4, "let x = 1": 10, "1 + let": 5, "{ a : 1 with": 9, "f ( )": 5} {
		if d := judge(g, "wholeexpr", text); d != (api.Diag{Line: 1, Col: col, E: api.ErrToken}) {
			t.Errorf("%q: %v", text, d)
		}
	}
}

func hold(t *testing.T, rule, text string, want api.Diag) {
	t.Helper()
	got, d := calls()[rule](text)
	if d != want {
		t.Errorf("%s %q: %v, not %v", rule, text, d, want)
	}
	if d.E != api.OK && shown(got) != shown(noughts()[rule]) {
		t.Errorf("%s %q: %v beside %v", rule, text, got, d)
	}
}

// P5.1, P5.3, P5.4: at each place of each text every token in the place of the one that stands there, ahead of it, and the end.
func TestEachPlace(t *testing.T) {
	g := readGrammar()
	for rule, texts := range goodTexts() {
		for _, text := range texts {
			hold(t, rule, text, api.Diag{})
			tokens := strings.Fields(text)
			c := newChart(g, rule)
			for k := range len(tokens) + 1 {
				holdPlace(t, g, rule, tokens, k, c)
				if k < len(tokens) {
					c, _ = c.with(tokenOf(tokens[k]))
				}
			}
		}
	}
}

// holdPlace has the chart of the tokens ahead of k.
func holdPlace(t *testing.T, g *grammar, rule string, tokens []string, k int, c chart) {
	t.Helper()
	ahead := strings.Join(tokens[:k], " ")
	col := len(ahead) + 1
	if k > 0 {
		ahead += " "
		col++
	}
	for _, other := range allTokens() {
		_, ok := c.with(tokenOf(other))
		text := ahead + other + " " + strings.Join(tokens[k:], " ")
		want := api.Diag{Line: 1, Col: col, E: api.ErrToken}
		if ok {
			want = judge(g, rule, text)
		}
		hold(t, rule, text, want)
		if k == len(tokens) {
			continue
		}
		text = ahead + other + " " + strings.Join(tokens[k+1:], " ")
		if ok {
			want = judge(g, rule, text)
		}
		hold(t, rule, text, want)
	}
	hold(t, rule, ahead, judge(g, rule, ahead))
	left := append(slices.Clone(tokens[:k]), tokens[min(k+1, len(tokens)):]...)
	text := strings.Join(left, " ")
	hold(t, rule, text, judge(g, rule, text))
}

// P5.1, P5.3: texts that go on as the grammar may, up to a token that mostly can't stand there.
func TestMadeUpTexts(t *testing.T) {
	g := readGrammar()
	random := rand.New(rand.NewSource(55))
	all := allTokens()
	for range 1500 {
		rule := []string{"module", "wholeexpr", "wholetype"}[random.Intn(3)]
		c := newChart(g, rule)
		var tokens []string
		for len(tokens) < 40 {
			token := all[random.Intn(len(all))]
			next, ok := c.with(tokenOf(token))
			if !ok && random.Intn(1000) > 0 {
				continue
			}
			tokens = append(tokens, token)
			if !ok {
				break
			}
			c = next
		}
		for _, count := range []int{len(tokens), random.Intn(len(tokens) + 1)} {
			text := strings.Join(tokens[:count], " ")
			hold(t, rule, text, judge(g, rule, text))
		}
	}
}
