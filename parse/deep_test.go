package parse

import (
	"math/rand"
	"slices"
	"strings"
	"testing"

	"gradus/api"
)

// step is what stands ahead of an expr, a unary or a type within one of these, and what stands behind it. In both, e, u or t with a digit is an expr, a unary or a type that is so much further in than the one which is begun, and -1 a unary's sign.
type step struct {
	of, ahead, behind, within string
}

// steps has all ways to have one of the three just one further in.
func steps() []step {
	return []step{
		{"expr", "let a =", "; e1", "expr"}, {"expr", "let a = e1 ;", "", "expr"}, {"expr", "let a :", "= e1 ; e1", "type"},
		{"expr", "if", "then e1 else e1", "expr"}, {"expr", "if e1 then", "else e1", "expr"}, {"expr", "if e1 then e1 else", "", "expr"},
		{"expr", "fn ( a ) =>", "", "expr"}, {"expr", "fn ( a :", ") => e1", "type"}, {"expr", "fn ( a ) :", "=> e1", "type"},
		{"expr", "u1 as", "", "type"}, {"expr", "u1 or u1 as", "and u1", "type"},
		{"expr", "", "", "unary"}, {"expr", "u1 +", "", "unary"}, {"expr", "", "or u1", "unary"}, {"expr", "u1 and u1 <", "", "unary"},
		{"expr", "-1 u2 *", "++ u1", "unary"}, {"expr", "u1 ( e2 ) . a -", "is int", "unary"},
		{"unary", "-", "", "unary"}, {"unary", "not", "", "unary"},
		{"unary", "(", ")", "expr"}, {"unary", "a (", ")", "expr"}, {"unary", "a ( e1 ) . b (", ") . b", "expr"}, {"unary", "print (", ")", "expr"},
		{"unary", "{ a :", "}", "expr"}, {"unary", "{ a : e1 , b :", ", a : e1 }", "expr"}, {"unary", "{", "with a : e1 }", "expr"}, {"unary", "{ e1 with b :", "}", "expr"},
		{"unary", "a [", "]", "type"}, {"unary", "a [ t1 ,", ", t1 ] ( e1 )", "type"},
		{"type", "(", ")", "type"}, {"type", "A | (", ") | A", "type"}, {"type", "A ->", "", "type"}, {"type", "A | A ->", "", "type"},
		{"type", "{ a :", "}", "type"}, {"type", "{ a : t1 , b :", ", c : t1 } -> t1", "type"},
	}
}

// spot is a token, and how many are around the innermost of the three that begins at it; below 0 if none does.
type spot struct {
	text   string
	around int
}

// chain is steps, one within the other.
type chain struct {
	ahead, behind []spot
	next          string // what begins next
	open          int    // how many are begun around it
	begins        int    // as a spot's around, of those that begin at the next token so far
}

// spots reads one side of a step.
func (c *chain) spots(side string) []spot {
	var out []spot
	for _, word := range strings.Fields(side) {
		s := spot{word, -1}
		if last := len(word) - 1; last == 1 && word[1] >= '0' && word[1] <= '9' {
			s.around = c.open + int(word[1]-'0')
			switch word[0] {
			case 'e':
				s.text = "a"
				s.around++ // of the unary of that expr
			case 'u':
				s.text = "a"
			case 't':
				s.text = "A"
			default:
				s.text = word[:1]
			}
		}
		out = append(out, s)
	}
	return out
}

func (c *chain) add(s step) {
	c.begins = max(c.begins, c.open)
	ahead := c.spots(s.ahead)
	if len(ahead) > 0 {
		ahead[0].around = max(ahead[0].around, c.begins)
		c.begins = -1
	}
	c.ahead, c.behind = append(c.ahead, ahead...), append(c.spots(s.behind), c.behind...)
	c.open++
	c.next = s.within
}

// judged is the Diag of a text of spots, of which the one at wrong, if there is one, can't stand there.
func judged(spots []spot, wrong int) (string, api.Diag) {
	var text []byte
	found := api.Diag{}
	for i, s := range spots {
		if len(text) > 0 && s.text != "" {
			text = append(text, ' ')
		}
		col := len(text) + 1
		text = append(text, s.text...)
		if found.E == api.OK && s.around >= api.MaxDeep {
			found = diagAt(1, col, api.ErrDeep)
		} else if found.E == api.OK && i == wrong {
			found = diagAt(1, col, api.ErrToken)
		}
	}
	return string(text), found
}

// hold ends the chain with a token that may stand there, with some that may not, and with the end.
func (c chain) hold(t *testing.T, rule string) (deep bool) {
	t.Helper()
	if c.next == "expr" {
		// What is no let, if or fn begins a unary with its expr.
		c.add(step{of: "expr", within: "unary"})
	}
	right := map[string]string{"unary": "a", "type": "A"}[c.next]
	around := max(c.begins, c.open)
	for _, token := range []string{right, ")", "=>", "then", "record", ""} {
		spots := append(slices.Clone(c.ahead), spot{token, around})
		wrong := len(c.ahead)
		if token == right {
			wrong = -1
		}
		if token != "" {
			spots = append(spots, c.behind...)
		}
		text, want := judged(spots, wrong)
		hold(t, rule, text, want)
		deep = want.E == api.ErrDeep
		if t.Failed() {
			t.FailNow() // one that is told is enough
		}
	}
	return deep
}

func startOf(rule string) chain {
	c := chain{next: "expr", begins: -1}
	switch rule {
	case "wholetype":
		c.next = "type"
	case "module":
		c.ahead, c.behind = []spot{}, []spot{{";", -1}}
		for _, word := range strings.Fields("fn f ( x ) =") {
			c.ahead = append(c.ahead, spot{word, -1})
		}
	}
	return c
}

// P5.3: two steps by turns, as far as 97 to 102 such.
func TestDeepByTurns(t *testing.T) {
	for _, rule := range []string{"module", "wholeexpr", "wholetype"} {
		for _, s := range steps() {
			for _, back := range steps() {
				if s.within == back.of && back.within == s.of {
					holdTurns(t, rule, s, back)
				}
			}
		}
	}
}

// holdTurns leads to the first step by as little as can be.
func holdTurns(t *testing.T, rule string, s, back step) {
	t.Helper()
	c := startOf(rule)
	if c.next == "type" && s.of != "type" {
		return
	}
	if c.next == "expr" && s.of == "type" {
		c.add(step{"expr", "u1 as", "", "type"})
	}
	if c.next == "expr" && s.of == "unary" {
		c.add(step{"expr", "", "", "unary"})
	}
	for turn := 0; c.open <= api.MaxDeep+2; turn++ {
		if c.open >= api.MaxDeep-3 {
			c.hold(t, rule)
		}
		c.add([]step{s, back}[turn%2])
	}
}

// P5.3: steps of all sorts, one within the other.
func TestDeepMixed(t *testing.T) {
	random := rand.New(rand.NewSource(5))
	all, deep := steps(), 0
	for range 2000 {
		rule := []string{"module", "wholeexpr", "wholetype"}[random.Intn(3)]
		c := startOf(rule)
		goal := 95 + random.Intn(8)
		// No way leads back from a type.
		late := random.Intn(goal)
		for c.open < goal {
			s := all[random.Intn(len(all))]
			if s.of == c.next && (s.within != "type" || s.of == "type" || c.open > late) {
				c.add(s)
			}
		}
		if c.hold(t, rule) {
			deep++
		}
	}
	if deep < 500 || deep > 1500 {
		t.Error(deep)
	}
}

// P5.3: in so many words, the edges of each of the three.
func TestDeepEdges(t *testing.T) {
	again := strings.Repeat
	for _, c := range []struct {
		rule, text string
		want       api.Diag
	}{
		// An expr is begun around the unaries: of 98 signs the name's own is within 99.
		{"wholeexpr", again("-", 98) + "a", api.Diag{}},
		{"wholeexpr", again("-", 99) + "a", diagAt(1, 100, api.ErrDeep)},
		{"wholeexpr", again("-", 99) + ")", diagAt(1, 100, api.ErrDeep)},
		{"wholeexpr", again("-", 99), diagAt(1, 100, api.ErrDeep)},
		{"wholeexpr", again("-", 98) + ")", diagAt(1, 99, api.ErrToken)},
		{"wholeexpr", again("-", 200) + "?", diagAt(1, 201, api.ErrChar)},
		// Of each bracket an expr and a unary.
		{"wholeexpr", again("(", 49) + "a" + again(")", 49), api.Diag{}},
		{"wholeexpr", again("(", 50) + "a" + again(")", 50), diagAt(1, 51, api.ErrDeep)},
		{"wholeexpr", again("(", 50) + again(")", 50), diagAt(1, 51, api.ErrDeep)},
		{"wholeexpr", again("(", 49) + ")", diagAt(1, 50, api.ErrToken)},
		{"wholeexpr", again("(", 49) + "-a" + again(")", 49), diagAt(1, 51, api.ErrDeep)},
		{"wholeexpr", again("(", 49) + "a * -a" + again(")", 49), diagAt(1, 55, api.ErrDeep)},
		{"wholeexpr", again("(", 49) + "a * a + a" + again(")", 49), api.Diag{}},
		{"wholeexpr", again("(", 49) + "a as A" + again(")", 49), api.Diag{}},
		{"wholeexpr", again("(", 49) + "a as (A)" + again(")", 49), diagAt(1, 56, api.ErrDeep)},
		{"wholeexpr", again("(", 49) + "{}" + again(")", 49), api.Diag{}},
		{"wholeexpr", again("(", 49) + "{a}" + again(")", 49), diagAt(1, 51, api.ErrDeep)},
		{"wholeexpr", again("(", 49) + "{)", diagAt(1, 51, api.ErrDeep)},
		{"wholeexpr", again("(", 49) + "{a: a}" + again(")", 49), diagAt(1, 54, api.ErrDeep)},
		{"wholeexpr", again("(", 49) + "f[A]" + again(")", 49), diagAt(1, 52, api.ErrDeep)},
		{"wholeexpr", again("(", 49) + "f[" + again(")", 49), diagAt(1, 52, api.ErrDeep)},
		{"wholeexpr", again("(", 49) + "read(a", diagAt(1, 55, api.ErrToken)},
		// Of each let one more, and the last one's rest is an expr and a unary.
		{"wholeexpr", again("let a = 1; ", 98) + "a", api.Diag{}},
		{"wholeexpr", again("let a = 1; ", 99) + "a", diagAt(1, 98*11+9, api.ErrDeep)},
		{"wholeexpr", again("fn (a) => ", 98) + "a", api.Diag{}},
		{"wholeexpr", again("fn (a) => ", 99) + "a", diagAt(1, 991, api.ErrDeep)},
		{"wholeexpr", again("fn (a) => ", 99) + "let a = ", diagAt(1, 999, api.ErrDeep)},
		{"wholeexpr", again("fn (a) => ", 99) + "fn (a: ", diagAt(1, 998, api.ErrDeep)},
		{"wholeexpr", again("fn (a) => ", 99) + "fn a", diagAt(1, 994, api.ErrToken)},
		{"wholeexpr", again("fn (a) => ", 100) + "a", diagAt(1, 1001, api.ErrDeep)},
		{"wholeexpr", again("fn (a) => ", 100) + "let", diagAt(1, 1001, api.ErrDeep)},
		{"wholeexpr", again("fn (a) => ", 100) + ";", diagAt(1, 1001, api.ErrDeep)},
		{"wholetype", again("(", 99) + "A" + again(")", 99), api.Diag{}},
		{"wholetype", again("(", 100) + "A" + again(")", 100), diagAt(1, 101, api.ErrDeep)},
		{"wholetype", again("(", 100) + ")", diagAt(1, 101, api.ErrDeep)},
		{"wholetype", again("(", 99) + ")", diagAt(1, 100, api.ErrToken)},
		{"wholetype", again("A->", 99) + "A", api.Diag{}},
		{"wholetype", again("A->", 100) + "A", diagAt(1, 301, api.ErrDeep)},
		{"wholetype", again("A->", 100), diagAt(1, 301, api.ErrDeep)},
		{"wholetype", again("{a:", 99) + "{}" + again("}", 99), api.Diag{}},
		{"wholetype", again("{a:", 99) + "{a:}" + again("}", 99), diagAt(1, 301, api.ErrDeep)},
		// A function of a module is around nothing of its types and its body, and what ended is around nothing more.
		{"module", "fn f(x: " + again("(", 99) + "A" + again(")", 99) + "): " + again("A->", 99) + "A = " + again("-", 98) + "a;", api.Diag{}},
		{"module", "fn f[A <: " + again("(", 100) + "A" + again(")", 100) + "](x) = x;", diagAt(1, 111, api.ErrDeep)},
		{"module", "fn f(x) = " + again("-", 98) + "a; fn f(x) = \n" + again("-", 99) + "a;", diagAt(2, 100, api.ErrDeep)},
		{"wholeexpr", again("-", 98) + "a * " + again("-", 98) + "a or " + again("(", 49) + "a" + again(")", 49), api.Diag{}},
		// The error that comes first.
		{"wholeexpr", ") " + again("-", 99) + "a", diagAt(1, 1, api.ErrToken)},
		{"wholeexpr", again("-", 99) + "a )", diagAt(1, 100, api.ErrDeep)},
	} {
		hold(t, c.rule, c.text, c.want)
	}
}
