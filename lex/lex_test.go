package lex

import (
	"regexp"
	"slices"
	"strings"
	"testing"

	"gradus/api"
	"gradus/word"
)

const allWords = "and any as bool else export false fn function if import in int is let not null or print read record str then true with"

const allSigns = "-> => <: << <= >> == ++ ( ) { } [ ] , : ; = + - * / % & ^ < | ."

const (
	most = "9223372036854775807" // 2^63 - 1
	over = "9223372036854775808"
)

var (
	nameForm  = regexp.MustCompile(`^[A-Za-z_][A-Za-z0-9_]*$`)
	blankForm = regexp.MustCompile(`^(?:[ \t\r\n]|#[^\n]*)+`)
	tokenForm = regexp.MustCompile(`^(?:([A-Za-z_][A-Za-z0-9_]*)|([0-9]+)|("(?s:[^"\\]|\\.)*"?)|(->|=>|<:|<<|<=|>>|==|\+\+|[(){}\[\],:;=+*/%&^<|.-]))`)
	wholeForm = regexp.MustCompile(`^"(?:[^\x00-\x1f"\\]|\\[\\"nt])*"$`)
)

// latin1 makes of each byte a letter of its own, since a regexp reads runes.
func latin1(s string) string {
	r := make([]rune, len(s))
	for i := range len(s) {
		r[i] = rune(s[i])
	}
	return string(r)
}

func unlatin1(s string) string {
	var b []byte
	for _, r := range s {
		b = append(b, byte(r))
	}
	return string(b)
}

func diag(line, col int, e api.Errno) api.Diag { return api.Diag{Line: line, Col: col, E: e} }

// place is worked out from the text alone, as the chapter says it.
func place(text string, at int) (int, int) {
	ahead := text[:at]
	return 1 + strings.Count(ahead, "\n"), 1 + at - (strings.LastIndexByte(ahead, '\n') + 1)
}

// expected is what the chapter says of a text, by forms in the place of steps.
func expected(text string) ([]api.Token, api.Diag) {
	if len(text) > 65536 {
		return nil, diag(1, 1, api.ErrLong)
	}
	var out []api.Token
	rest := latin1(text)
	at := 0
	for {
		blank := blankForm.FindString(rest)
		rest = rest[len(blank):]
		at += len(unlatin1(blank))
		line, col := place(text, at)
		if rest == "" {
			return append(out, api.Token{Kind: api.TokEnd, Line: line, Col: col}), api.Diag{}
		}
		m := tokenForm.FindStringSubmatch(rest)
		kind, said, e := judged(m)
		if e == api.OK && len(out) == 8192 {
			e = api.ErrMany
		}
		if e != api.OK {
			return nil, diag(line, col, e)
		}
		out = append(out, api.Token{Kind: kind, Text: said, Line: line, Col: col})
		rest = rest[len(m[0]):]
		at += len(unlatin1(m[0]))
	}
}

func judged(m []string) (int, string, api.Errno) {
	switch {
	case m == nil:
		return 0, "", api.ErrChar
	case m[1] != "":
		if len(m[1]) > 32 {
			return 0, "", api.ErrLong
		}
		if slices.Contains(strings.Fields(allWords), m[1]) {
			return api.TokWord, m[1], api.OK
		}
		return api.TokName, m[1], api.OK
	case m[2] != "":
		if len(m[2]) > 1 && m[2][0] == '0' || len(m[2]) > len(most) || len(m[2]) == len(most) && m[2] > most {
			return 0, "", api.ErrNumber
		}
		return api.TokNumber, m[2], api.OK
	case m[3] != "":
		if !wholeForm.MatchString(m[3]) {
			return 0, "", api.ErrString
		}
		said := unlatin1(strings.NewReplacer(`\\`, `\`, `\"`, `"`, `\n`, "\n", `\t`, "\t").Replace(m[3][1 : len(m[3])-1]))
		if len(said) > 256 {
			return 0, "", api.ErrLong
		}
		return api.TokString, said, api.OK
	}
	return api.TokSign, m[4], api.OK
}

// hold lexes a text, and holds the answer against what is expected.
func hold(t *testing.T, text string) {
	t.Helper()
	got, d := Lex(text)
	want, wantDiag := expected(text)
	if d != wantDiag || !slices.Equal(got, want) {
		t.Fatalf("%.80q (%d bytes): %.300v %v, not %.300v %v", text, len(text), got, d, want, wantDiag)
	}
}

func wantDiags(t *testing.T, cases map[string]api.Diag) {
	t.Helper()
	for text, want := range cases {
		got, d := Lex(text)
		if d != want || len(got) != 0 {
			t.Errorf("%.80q (%d bytes): %.200v %v, not %v", text, len(text), got, d, want)
		}
		hold(t, text)
	}
}

func wantTokens(t *testing.T, text string, want ...api.Token) {
	t.Helper()
	got, d := Lex(text)
	if d != (api.Diag{}) || !slices.Equal(got, want) {
		t.Errorf("%.80q: %v %v, not %v", text, got, d, want)
	}
	hold(t, text)
}

func end(line, col int) api.Token { return api.Token{Kind: api.TokEnd, Line: line, Col: col} }

func tok(kind int, text string, line, col int) api.Token {
	return api.Token{Kind: kind, Text: text, Line: line, Col: col}
}

// P2.1
func TestWordsInOrder(t *testing.T) {
	if got := Words(); !slices.Equal(got, strings.Fields(allWords)) {
		t.Error(got)
	}
}

// P2.1, R3: what was answered is the caller's own.
func TestWordsAreTheCallersOwn(t *testing.T) {
	l := Words()
	l[0] = "x"
	_ = append(l[:2], "y")
	if got := Words(); !slices.Equal(got, strings.Fields(allWords)) {
		t.Error(got)
	}
	if Name("and") || Name("as") || !Name("x") || !Name("y") {
		t.Error("names hang on a list that was handed out")
	}
}

// P2.1
func TestName(t *testing.T) {
	long := strings.Repeat("n", 32)
	for _, s := range []string{"a", "z", "A", "Z", "_", "__", "a0", "_9", "Let", "lets", "le", "anyone", "a_b", long, "_" + long[1:], "x" + strings.Repeat("9", 31)} {
		if !Name(s) {
			t.Errorf("%q is a name", s)
		}
	}
	for _, s := range []string{"", "0", "9a", " a", "a ", "a-b", "a.b", "a\n", "a\x00", "é", "aé", "a\xff", "@", "[", "`", "{", "a@", "a[", "a`", "a{", "a/", "a:", "\"a\"", long + "n", strings.Repeat("n", 70000)} {
		if Name(s) {
			t.Errorf("%.40q is no name", s)
		}
	}
	for _, s := range strings.Fields(allWords) {
		if Name(s) || !Name(s+"_") || !Name("_"+s) {
			t.Errorf("%q", s)
		}
	}
}

// P2.1: of every one and two bytes.
func TestNameOfShortTexts(t *testing.T) {
	own := strings.Fields(allWords)
	is := func(s string) bool { return nameForm.MatchString(latin1(s)) && !slices.Contains(own, s) }
	for a := range 256 {
		if s := string([]byte{byte(a)}); Name(s) != is(s) {
			t.Errorf("%q", s)
		}
		for b := range 256 {
			if s := string([]byte{byte(a), byte(b)}); Name(s) != is(s) {
				t.Errorf("%q", s)
			}
		}
	}
}

// P2.2: the chapter's examples.
func TestExamples(t *testing.T) {
	wantTokens(t, "let x1 = 12;", tok(api.TokWord, "let", 1, 1), tok(api.TokName, "x1", 1, 5), tok(api.TokSign, "=", 1, 8),
		tok(api.TokNumber, "12", 1, 10), tok(api.TokSign, ";", 1, 12), end(1, 13))
	wantTokens(t, "a<=b # c", tok(api.TokName, "a", 1, 1), tok(api.TokSign, "<=", 1, 2), tok(api.TokName, "b", 1, 4), end(1, 9))
	wantDiags(t, map[string]api.Diag{"007": diag(1, 1, api.ErrNumber), "\"a": diag(1, 1, api.ErrString), "?": diag(1, 1, api.ErrChar)})
}

// P2.2: nothing, blanks and comments.
func TestWithoutTokens(t *testing.T) {
	for text, want := range map[string]api.Token{
		"":                  end(1, 1),
		" ":                 end(1, 2),
		" \t\r":             end(1, 4),
		"\n":                end(2, 1),
		"\n\n ":             end(3, 2),
		"\r\n":              end(2, 1),
		"\n\r":              end(2, 2),
		"#":                 end(1, 2),
		"# \"a ? 007":       end(1, 11),
		"#\n":               end(2, 1),
		"#a\n#b":            end(2, 3),
		"##\x00\xff\r>\t\"": end(1, 9),
	} {
		wantTokens(t, text, want)
	}
}

// P2.2: a comment goes up to a line feed, and up to no other byte.
func TestComments(t *testing.T) {
	wantTokens(t, "a#b\nc", tok(api.TokName, "a", 1, 1), tok(api.TokName, "c", 2, 1), end(2, 2))
	wantTokens(t, "a#b\rc\n d", tok(api.TokName, "a", 1, 1), tok(api.TokName, "d", 2, 2), end(2, 3))
	wantTokens(t, "a#b", tok(api.TokName, "a", 1, 1), end(1, 4))
	wantTokens(t, "\"#\"#\"", tok(api.TokString, "#", 1, 1), end(1, 6))
}

// P2.2: a place counts bytes, and line feeds alone make lines.
func TestPlaces(t *testing.T) {
	wantTokens(t, "a\r\n\tb\r c\n\n  12\n", tok(api.TokName, "a", 1, 1), tok(api.TokName, "b", 2, 2), tok(api.TokName, "c", 2, 5), tok(api.TokNumber, "12", 4, 3), end(5, 1))
	wantTokens(t, "\"é\" x", tok(api.TokString, "é", 1, 1), tok(api.TokName, "x", 1, 6), end(1, 7))
	wantTokens(t, "\"\\n\"x", tok(api.TokString, "\n", 1, 1), tok(api.TokName, "x", 1, 5), end(1, 6))
	wantDiags(t, map[string]api.Diag{
		"a\n ?":          diag(2, 2, api.ErrChar),
		"\n\n\"x\n":      diag(3, 1, api.ErrString),
		"# c\n\r\n  00":  diag(3, 3, api.ErrNumber),
		"a b\n\n\t$ x\n": diag(3, 2, api.ErrChar),
	})
}

// P2.2: words and names, and what stands beside them.
func TestWordsAndNames(t *testing.T) {
	for _, w := range strings.Fields(allWords) {
		wantTokens(t, w, tok(api.TokWord, w, 1, 1), end(1, 1+len(w)))
		wantTokens(t, w+"_", tok(api.TokName, w+"_", 1, 1), end(1, 2+len(w)))
		wantTokens(t, strings.ToUpper(w), tok(api.TokName, strings.ToUpper(w), 1, 1), end(1, 1+len(w)))
	}
	wantTokens(t, "letx let", tok(api.TokName, "letx", 1, 1), tok(api.TokWord, "let", 1, 6), end(1, 9))
	wantTokens(t, "12a_3", tok(api.TokNumber, "12", 1, 1), tok(api.TokName, "a_3", 1, 3), end(1, 6))
	wantTokens(t, "_1.x", tok(api.TokName, "_1", 1, 1), tok(api.TokSign, ".", 1, 3), tok(api.TokName, "x", 1, 4), end(1, 5))
}

// P2.2
func TestNumbers(t *testing.T) {
	for _, s := range []string{"0", "1", "9", "10", "100", most} {
		wantTokens(t, s, tok(api.TokNumber, s, 1, 1), end(1, 1+len(s)))
	}
	wantTokens(t, "-1", tok(api.TokSign, "-", 1, 1), tok(api.TokNumber, "1", 1, 2), end(1, 3))
	wantTokens(t, "1.0", tok(api.TokNumber, "1", 1, 1), tok(api.TokSign, ".", 1, 2), tok(api.TokNumber, "0", 1, 3), end(1, 4))
}

// P2.2
func TestStrings(t *testing.T) {
	for text, said := range map[string]string{
		`""`:            "",
		`"a"`:           "a",
		`"\\"`:          `\`,
		`"\\\""`:        `\"`,
		`"\"\\"`:        `"\`,
		`"\n\t\\n"`:     "\n\t\\n",
		`"nt"`:          "nt",
		"\"\x7f\xff \"": "\x7f\xff ",
		`"# no ? 007"`:  "# no ? 007",
	} {
		wantTokens(t, text, tok(api.TokString, said, 1, 1), end(1, 1+len(text)))
	}
	wantTokens(t, `"a""b"c`, tok(api.TokString, "a", 1, 1), tok(api.TokString, "b", 1, 4), tok(api.TokName, "c", 1, 7), end(1, 8))
	wantTokens(t, `"\\""\\"`, tok(api.TokString, `\`, 1, 1), tok(api.TokString, `\`, 1, 5), end(1, 9))
}

// P2.2: the longest sign that fits.
func TestSigns(t *testing.T) {
	for _, s := range strings.Fields(allSigns) {
		wantTokens(t, s, tok(api.TokSign, s, 1, 1), end(1, 1+len(s)))
	}
	for text, parts := range map[string]string{
		"<<=":     "<< =",
		"<<<":     "<< <",
		"<<:":     "<< :",
		"<=>>":    "<= >>",
		"<==":     "<= =",
		"===>":    "== =>",
		"==":      "==",
		"===":     "== =",
		"+++":     "++ +",
		"++++":    "++ ++",
		"-->":     "- ->",
		"->>>":    "-> >>",
		"<:=":     "<: =",
		"<-":      "< -",
		":<":      ": <",
		"=<":      "= <",
		"=+":      "= +",
		"(){}[]":  "( ) { } [ ]",
		",:;.":    ", : ; .",
		"*/%&^||": "* / % & ^ | |",
		">>>>":    ">> >>",
	} {
		var want []api.Token
		col := 1
		for _, p := range strings.Fields(parts) {
			want = append(want, tok(api.TokSign, p, 1, col))
			col += len(p)
		}
		wantTokens(t, text, append(want, end(1, col))...)
	}
	wantTokens(t, "= >>", tok(api.TokSign, "=", 1, 1), tok(api.TokSign, ">>", 1, 3), end(1, 5))
	wantTokens(t, "+ +", tok(api.TokSign, "+", 1, 1), tok(api.TokSign, "+", 1, 3), end(1, 4))
}

// P2.3: names, words and strings at their bounds.
func TestTooLong(t *testing.T) {
	name := strings.Repeat("n", 32)
	wantTokens(t, name, tok(api.TokName, name, 1, 1), end(1, 33))
	wantTokens(t, name+"+"+name, tok(api.TokName, name, 1, 1), tok(api.TokSign, "+", 1, 33), tok(api.TokName, name, 1, 34), end(1, 66))
	text := strings.Repeat("s", 256)
	wantTokens(t, `"`+text+`"`, tok(api.TokString, text, 1, 1), end(1, 259))
	wantTokens(t, `"`+strings.Repeat(`\n`, 256)+`"`, tok(api.TokString, strings.Repeat("\n", 256), 1, 1), end(1, 515))
	wantTokens(t, `"`+strings.Repeat("é", 128)+`"`, tok(api.TokString, strings.Repeat("é", 128), 1, 1), end(1, 259))
	wantDiags(t, map[string]api.Diag{
		name + "n":                                diag(1, 1, api.ErrLong),
		"let\n " + name + "0":                     diag(2, 2, api.ErrLong),
		strings.Repeat("let", 11):                 diag(1, 1, api.ErrLong),
		strings.Repeat("_", 65536):                diag(1, 1, api.ErrLong),
		`"` + text + `s"`:                         diag(1, 1, api.ErrLong),
		` "` + strings.Repeat(`\"`, 257) + `"`:    diag(1, 2, api.ErrLong),
		`"` + strings.Repeat("é", 128) + `\\"`:    diag(1, 1, api.ErrLong),
		"\n\"" + strings.Repeat("s", 60000) + `"`: diag(2, 1, api.ErrLong),
	})
}

// P2.3: the text's own bound, which is told ahead of all else.
func TestTooLongText(t *testing.T) {
	wantTokens(t, strings.Repeat(" ", 65536), end(1, 65537))
	wantTokens(t, strings.Repeat("\n", 65536), end(65537, 1))
	wantTokens(t, "#"+strings.Repeat("c", 65535), end(1, 65537))
	wantTokens(t, strings.Repeat(" ", 65535)+"a", tok(api.TokName, "a", 1, 65536), end(1, 65537))
	wantDiags(t, map[string]api.Diag{
		strings.Repeat(" ", 65537):             diag(1, 1, api.ErrLong),
		"?" + strings.Repeat(" ", 65536):       diag(1, 1, api.ErrLong),
		"\n00\"" + strings.Repeat("\n", 65536): diag(1, 1, api.ErrLong),
		"?" + strings.Repeat(" ", 65535):       diag(1, 1, api.ErrChar),
		strings.Repeat("\n", 65535) + "?":      diag(65536, 1, api.ErrChar),
		strings.Repeat("a ", 40000):            diag(1, 1, api.ErrLong),
	})
}

// P2.3
func TestNoNumber(t *testing.T) {
	wantDiags(t, map[string]api.Diag{
		"00":                              diag(1, 1, api.ErrNumber),
		"01":                              diag(1, 1, api.ErrNumber),
		"0" + most:                        diag(1, 1, api.ErrNumber),
		over:                              diag(1, 1, api.ErrNumber),
		"-" + over:                        diag(1, 2, api.ErrNumber),
		most + "0":                        diag(1, 1, api.ErrNumber),
		"x " + strings.Repeat("9", 60000): diag(1, 3, api.ErrNumber),
		"1 + 08a":                         diag(1, 5, api.ErrNumber),
		"18446744073709551617":            diag(1, 1, api.ErrNumber),
	})
}

// P2.3
func TestNoString(t *testing.T) {
	cases := map[string]api.Diag{
		`"`:          diag(1, 1, api.ErrString),
		`a"`:         diag(1, 2, api.ErrString),
		`"a\"`:       diag(1, 1, api.ErrString),
		`"a\`:        diag(1, 1, api.ErrString),
		`"\\\"`:      diag(1, 1, api.ErrString),
		"\"a\nb\"":   diag(1, 1, api.ErrString),
		"\"a\\\nb\"": diag(1, 1, api.ErrString),
		"\"a\r\"":    diag(1, 1, api.ErrString),
		"\"\t\"":     diag(1, 1, api.ErrString),
		`"a""`:       diag(1, 4, api.ErrString),
	}
	for b := range 32 {
		cases["x \""+string([]byte{byte(b)})+"\""] = diag(1, 3, api.ErrString)
	}
	for b := range 256 {
		if strings.IndexByte(`\"nt`, byte(b)) < 0 {
			cases["\"\\"+string([]byte{byte(b)})+"\""] = diag(1, 1, api.ErrString)
		}
	}
	wantDiags(t, cases)
}

// P2.3: a string that is wrong is so however long it is.
func TestWrongAndTooLong(t *testing.T) {
	long := strings.Repeat("s", 300)
	wantDiags(t, map[string]api.Diag{
		`"` + long:                         diag(1, 1, api.ErrString),
		`"` + long + "\n\"":                diag(1, 1, api.ErrString),
		`"` + long + "\x01\"":              diag(1, 1, api.ErrString),
		`"` + long + `\r"`:                 diag(1, 1, api.ErrString),
		`"\r` + long + `"`:                 diag(1, 1, api.ErrString),
		`"` + long + `\"`:                  diag(1, 1, api.ErrString),
		"a\n\"" + long + long + "\t" + `"`: diag(2, 1, api.ErrString),
	})
}

// P2.3: of every byte alone, and between others.
func TestNoToken(t *testing.T) {
	for b := range 256 {
		s := string([]byte{byte(b)})
		for _, text := range []string{s, "a" + s, " " + s + " ", "\n" + s + "=", s + s, s + ">", "<" + s, "1" + s + "1"} {
			hold(t, text)
		}
	}
	wantDiags(t, map[string]api.Diag{
		">":      diag(1, 1, api.ErrChar),
		"a > b":  diag(1, 3, api.ErrChar),
		">=":     diag(1, 1, api.ErrChar),
		"> >":    diag(1, 1, api.ErrChar),
		">>>":    diag(1, 3, api.ErrChar),
		"==>":    diag(1, 3, api.ErrChar),
		"!":      diag(1, 1, api.ErrChar),
		"!=":     diag(1, 1, api.ErrChar),
		"a\\":    diag(1, 2, api.ErrChar),
		"'a'":    diag(1, 1, api.ErrChar),
		"é":      diag(1, 1, api.ErrChar),
		"aé":     diag(1, 2, api.ErrChar),
		"\x00":   diag(1, 1, api.ErrChar),
		"\v":     diag(1, 1, api.ErrChar),
		"a\fb":   diag(1, 2, api.ErrChar),
		"\x7f":   diag(1, 1, api.ErrChar),
		"\u00a0": diag(1, 1, api.ErrChar),
	})
}

// P2.3: 8192 tokens, End not counted.
func TestTooMany(t *testing.T) {
	full := strings.Repeat("; ", 8192)
	got, d := Lex(full + "\n# c")
	if d != (api.Diag{}) || len(got) != 8193 || got[8191] != tok(api.TokSign, ";", 1, 16383) || got[8192] != end(2, 4) {
		t.Errorf("%d tokens, %v", len(got), d)
	}
	hold(t, full)
	long := strings.Repeat("s", 300)
	wantDiags(t, map[string]api.Diag{
		full + ";":                           diag(1, 16385, api.ErrMany),
		full + "\n  x y":                     diag(2, 3, api.ErrMany),
		full + "let":                         diag(1, 16385, api.ErrMany),
		full + `"a" ?`:                       diag(1, 16385, api.ErrMany),
		full + "7 007":                       diag(1, 16385, api.ErrMany),
		full + strings.Repeat("n", 33):       diag(1, 16385, api.ErrLong),
		full + `"` + long + `"`:              diag(1, 16385, api.ErrLong),
		full + "007":                         diag(1, 16385, api.ErrNumber),
		full + `"`:                           diag(1, 16385, api.ErrString),
		full + "?":                           diag(1, 16385, api.ErrChar),
		full[2:] + "? ;":                     diag(1, 16383, api.ErrChar),
		strings.Repeat("<=", 8192) + ">>":    diag(1, 16385, api.ErrMany),
		strings.Repeat("1\n", 8192) + "a":    diag(8193, 1, api.ErrMany),
		strings.Repeat("()", 4096) + "\n\n)": diag(3, 1, api.ErrMany),
	})
}

// P2.3: what is wrong first in the text is told, whatever its kind.
func TestFirstFault(t *testing.T) {
	faults := map[string]api.Errno{
		strings.Repeat("n", 33):              api.ErrLong,
		`"` + strings.Repeat("s", 257) + `"`: api.ErrLong,
		"007":                                api.ErrNumber,
		`"\x"`:                               api.ErrString,
		"?":                                  api.ErrChar,
	}
	for a, e := range faults {
		for b := range faults {
			wantDiags(t, map[string]api.Diag{
				"x " + a + " " + b:   diag(1, 3, e),
				"x\n" + a + "\n" + b: diag(2, 1, e),
				"# " + b + "\n " + a: diag(2, 2, e),
			})
		}
	}
}

// P2.2, P2.3: all short texts of bytes that matter, against the chapter's forms.
func TestAllShortTexts(t *testing.T) {
	alphabet := "a0 1\n\"\\n#<>=-:+\x01\xe9?"
	for length := range 4 {
		shortTexts(t, alphabet, length, "")
	}
	shortTexts(t, "n0\n\"\\#<>=\t", 5, "")
}

func shortTexts(t *testing.T, alphabet string, length int, ahead string) {
	if length == 0 {
		hold(t, ahead)
		return
	}
	for i := range len(alphabet) {
		shortTexts(t, alphabet, length-1, ahead+alphabet[i:i+1])
	}
}

// chance is the same row of numbers in every run.
type chance uint64

func (c *chance) below(n int) int {
	x := uint64(*c)
	x ^= x << 13
	x ^= x >> 7
	x ^= x << 17
	*c = chance(x)
	return int(x % uint64(n))
}

// P2.2, P2.3: long texts, put together from pieces, against the chapter's forms.
func TestLongTexts(t *testing.T) {
	pieces := append(strings.Fields(allWords+" "+allSigns), "\n", " ", "\t", "\r\n", "# c ? \"\n", "x", "_y2", "0", "17", most,
		`"a b"`, `"\\\"\n\t"`, `""`, strings.Repeat("k", 32), `"`+strings.Repeat("é", 128)+`"`)
	wrong := []string{"007", "?", `"`, "\x00", over, strings.Repeat("k", 33), ">", `"\q"`}
	c := chance(88172645463325252)
	for round := range 300 {
		var b strings.Builder
		for range c.below(400) {
			b.WriteString(pieces[c.below(len(pieces))])
			if c.below(3) > 0 {
				b.WriteByte(' ')
			}
		}
		if round%2 == 1 {
			b.WriteString(wrong[c.below(len(wrong))])
			b.WriteString(pieces[c.below(len(pieces))])
		}
		hold(t, b.String())
	}
}

// P1: any bytes at all are answered.
func TestAnyBytes(t *testing.T) {
	c := chance(2463534242)
	for range 3000 {
		b := make([]byte, c.below(40))
		for i := range b {
			b[i] = byte(c.below(256))
		}
		s := string(b)
		hold(t, s)
		Name(s)
		Quote(s)
	}
}

// P2.4
func TestQuote(t *testing.T) {
	for s, want := range map[string]string{
		"":                `""`,
		"a":               `"a"`,
		"a\"b":            `"a\"b"`,
		`\`:               `"\\"`,
		`\n`:              `"\\n"`,
		"\n\t":            `"\n\t"`,
		"\r\x00\x1f":      "\"\r\x00\x1f\"",
		"\x7f\xff\u00e9'": "\"\x7f\xff\u00e9'\"",
		"nt":              `"nt"`,
	} {
		if got := Quote(s); got != want {
			t.Errorf("%q: %s, not %s", s, got, want)
		}
	}
	for b := range 256 {
		s := string([]byte{'x', byte(b), 'y'})
		want := `"` + strings.NewReplacer(`\`, `\\`, `"`, `\"`, "\n", `\n`, "\t", `\t`).Replace(s) + `"`
		if got := Quote(s); got != want {
			t.Errorf("%q: %q, not %q", s, got, want)
		}
	}
	if long := strings.Repeat("\n", 100000); Quote(long) != `"`+strings.Repeat(`\n`, 100000)+`"` {
		t.Error("a long text")
	}
}

// P2.5
func TestLexOfQuote(t *testing.T) {
	texts := []string{"", "\\", "\"", "\n", "\t", `\\"`, `"\`, "# c", strings.Repeat("\\", 256), strings.Repeat("\"", 256), strings.Repeat("\n\t", 128), strings.Repeat("\xff", 256)}
	for b := range 256 {
		if b >= 32 || b == '\n' || b == '\t' {
			texts = append(texts, string([]byte{byte(b)}), string([]byte{byte(b), 'n'}), string([]byte{'\\', byte(b)}), strings.Repeat(string([]byte{byte(b)}), 256))
		}
	}
	c := chance(1234567891011)
	for range 2000 {
		b := make([]byte, c.below(257))
		for i := range b {
			b[i] = "\n\t"[c.below(2)]
			if c.below(4) > 0 {
				b[i] = byte(32 + c.below(224))
			}
		}
		texts = append(texts, string(b))
	}
	for _, s := range texts {
		q := Quote(s)
		wantTokens(t, q, tok(api.TokString, s, 1, 1), end(1, 1+len(q)))
	}
}

// P2.5: a text that Quote can't save is wrong, not another one.
func TestLexOfQuoteOfOthers(t *testing.T) {
	cases := map[string]api.Diag{
		Quote(strings.Repeat("s", 257)):          diag(1, 1, api.ErrLong),
		Quote(strings.Repeat("s", 257) + "\x02"): diag(1, 1, api.ErrString),
	}
	for b := range 32 {
		if b != '\n' && b != '\t' {
			cases[Quote("a"+string([]byte{byte(b)}))] = diag(1, 1, api.ErrString)
		}
	}
	wantDiags(t, cases)
}

// P2.5: a token's text is in the text at its place.
func TestTextsAtTheirPlaces(t *testing.T) {
	text := "# c\nfn f(x) =\r\n\tlet y: int|null = 12; \"a\\n\" ++ f(x)->\n=>_z1.k <: {a: 0} # \"\n<="
	l, d := Lex(text)
	if d != (api.Diag{}) || len(l) < 30 {
		t.Fatal(len(l), d)
	}
	lines := strings.Split(text, "\n")
	for _, k := range l {
		rest := lines[k.Line-1][k.Col-1:]
		switch k.Kind {
		case api.TokString:
			if !strings.HasPrefix(rest, Quote(k.Text)) {
				t.Error(k)
			}
		case api.TokEnd:
			if k.Text != "" || rest != "" || k.Line != len(lines) {
				t.Error(k)
			}
		default:
			if k.Text == "" || !strings.HasPrefix(rest, k.Text) {
				t.Error(k)
			}
		}
		if _, ok := word.Parse(k.Text); ok != (k.Kind == api.TokNumber) {
			t.Error(k)
		}
	}
}

// R3, R5: an answer is the caller's own, and hangs on nothing that was asked before.
func TestTokensAreTheCallersOwn(t *testing.T) {
	text := "let x = \"a\\n\" <= 12;"
	first, _ := Lex(text)
	kept := slices.Clone(first)
	for i := range first {
		first[i] = api.Token{Kind: 99, Text: "changed"}
	}
	_ = append(first[:1], api.Token{})
	if _, d := Lex("?"); d != diag(1, 1, api.ErrChar) {
		t.Error(d)
	}
	second, d := Lex(text)
	if d != (api.Diag{}) || !slices.Equal(second, kept) {
		t.Error(second, d)
	}
}
