package flat

import (
	"math"
	"strings"
	"testing"

	"gradus/api"
)

// P14.1: values as text, both where they are printed and at the end of the run.
func TestText(t *testing.T) {
	letters := func(n int) string { return strings.Repeat("abcdefgh", 9)[:n] }
	for _, c := range []struct {
		body api.Core
		want string
	}{
		{nothing(), "null"},
		{boolean(1), "true"},
		{boolean(0), "false"},
		{num(0), "0"},
		{num(-5), "-5"},
		{num(math.MinInt64), "-9223372036854775808"},
		{global(1), "fn"},
		{makes(1, 0), "fn"},
		{cast(0, "any", "int -> int", global(1)), "fn"},
		// Strings, of 64 bytes and of more. Bytes are counted as they are, not as they are written.
		{str(""), `""`},
		{str("a b"), `"a b"`},
		{str("\"\\\n\t"), `"\"\\\n\t"`},
		{str("é\x80"), "\"é\x80\""},
		{str(letters(63)), `"` + letters(63) + `"`},
		{str(letters(64)), `"` + letters(64) + `"`},
		{str(letters(65)), `"` + letters(64) + `"..`},
		{str(letters(64) + "\n\n"), `"` + letters(64) + `"..`},
		{str(strings.Repeat("\"", 64)), `"` + strings.Repeat(`\"`, 64) + `"`},
		{str(strings.Repeat("\n", 65)), `"` + strings.Repeat(`\n`, 64) + `"..`},
		{str(letters(63) + "\\x"), `"` + letters(63) + `\\"..`},
		{str(letters(63) + "é"), `"` + letters(63) + "\xc3\".."},
		// Records, by rising names.
		{rec(""), "{}"},
		{rec("a", num(1)), "{a: 1}"},
		{rec("b a", num(1), num(2)), "{a: 2, b: 1}"},
		{rec("b aa _ a B a1 ab", num(1), num(2), num(3), num(4), num(5), num(6), num(7)), "{B: 5, _: 3, a: 4, a1: 6, aa: 2, ab: 7, b: 1}"},
		{rec("a b c d e f", nothing(), boolean(1), num(-3), str("x\n"), rec("z", num(1)), makes(1)), `{a: null, b: true, c: -3, d: "x\n", e: {..}, f: fn}`},
		{rec("s", str(letters(64))), `{s: "` + letters(64) + `"}`},
		{rec("s", str(letters(65))), `{s: "` + letters(64) + `"..}`},
		{rec("b a", rec(""), rec("a", rec("b", num(1)))), "{a: {..}, b: {..}}"},
		{with(rec("c a", num(1), num(2)), "b", num(3)), "{a: 2, b: 3, c: 1}"},
		{sel(rec("a", rec("b", rec("c", num(1)))), "a"), "{b: {..}}"},
		// What a record is coerced by plays no part: its fields are not read.
		{cast(0, "any", "{a: int}", rec("a", str("x"))), `{a: "x"}`},
		{cast(0, "any", "{a: int, b: any}", rec("c b a", num(1), num(2), str("x"))), `{a: "x", b: 2, c: 1}`},
		{rec("r", cast(0, "any", "{a: int}", rec("a", str("x")))), "{r: {..}}"},
		{rec("f", cast(0, "any", "int -> int", global(1))), "{f: fn}"},
	} {
		holdCores(t, tells("done "+c.want, c.body, num(1)), tells("print "+c.want+"; done null", print(c.body), num(1)))
	}
}

// P14.1: CPrint comes to null, each time anew.
func TestPrint(t *testing.T) {
	holdCores(t,
		tells("print 1; print null; done null", print(print(num(1)))),
		tells("print 1; print 2; done {a: null, b: null}", rec("a b", print(num(1)), print(num(2)))),
		tells("print 1; done true", core(api.CEq, print(num(1)), nothing())),
		tells("print 1; print 2; done 2", call(makes(1), say(1, num(2))), let(print(variable(0)), variable(0))),
	)
	holdRuns(t,
		runs{"fn f(n: int): null = if n < 1 then null else (let a = print(n); f(n - 1)); fn main(x) = f(3);", "print 3; print 2; print 1; done null"},
		runs{"fn f(n: int): null = if n < 1 then null else (let a = f(n - 1); print(n)); fn main(x) = f(3);", "print 1; print 2; print 3; done null"},
		runs{`fn main(x) = let a = print("\t"); let b = print({f: main, e: {}}); print(x);`, `print "\t"; print {e: {..}, f: fn}; print null; done null`},
	)
}

// P14.1: CRead, with numbers and with none left.
func TestRead(t *testing.T) {
	read := core(api.CRead)
	for _, c := range []struct {
		body  api.Core
		input []int
		want  string
	}{
		{read, nil, "trap 2"},
		{read, []int{}, "trap 2"},
		{read, []int{7}, "read 7; done 7"},
		{read, []int{7, 8}, "read 7; done 7"},
		{read, []int{math.MinInt64}, "read -9223372036854775808; done -9223372036854775808"},
		{read, []int{math.MaxInt64}, "read 9223372036854775807; done 9223372036854775807"},
		{sub(read, read), nil, "trap 2"},
		{sub(read, read), []int{7}, "read 7; trap 2"},
		{sub(read, read), []int{7, 0}, "read 7; read 0; done 7"},
		{sub(read, sub(read, read)), []int{1, 20, 300}, "read 1; read 20; read 300; done 281"},
		{let(print(read), read), []int{3, 4}, "read 3; print 3; read 4; done 4"},
		{call(makes(1), read), []int{3, 4, 5}, "read 3; read 4; done -1"},
		{num(1), []int{3, 4}, "done 1"},
	} {
		if got := told(Run(byHand(c.body, sub(variable(0), read)), 0, c.input, plenty)); got != c.want {
			t.Errorf("%v of %v: %s, not %s", c.body, c.input, got, c.want)
		}
	}
	holdRuns(t, runs{"fn main(x) = let a = read() + read() + read(); read();", "read 5; read -6; read 7; trap 2"})
}
