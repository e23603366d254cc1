package run

import (
	"fmt"
	"math"
	"strings"
	"testing"

	"gradus/api"
	"gradus/word"
)

// P11.1: operations of numbers, worked out by hand.
func TestOperations(t *testing.T) {
	const least, greatest = math.MinInt64, math.MaxInt64
	for _, c := range []struct {
		op, a, b int
		want     string
	}{
		{api.OpAdd, 2, 3, "5"}, {api.OpAdd, greatest, 1, "-9223372036854775808"}, {api.OpAdd, least, -1, "9223372036854775807"},
		{api.OpSub, 2, 3, "-1"}, {api.OpSub, least, 1, "9223372036854775807"}, {api.OpSub, 0, least, "-9223372036854775808"},
		{api.OpMul, -4, 3, "-12"}, {api.OpMul, greatest, 2, "-2"}, {api.OpMul, least, -1, "-9223372036854775808"},
		{api.OpDiv, 7, 2, "3"}, {api.OpDiv, -7, 2, "-3"}, {api.OpDiv, 7, -2, "-3"}, {api.OpDiv, least, -1, "-9223372036854775808"},
		{api.OpMod, 7, 2, "1"}, {api.OpMod, -7, 2, "-1"}, {api.OpMod, 7, -2, "1"}, {api.OpMod, least, -1, "0"},
		{api.OpShl, 1, 65, "2"}, {api.OpShl, 1, 63, "-9223372036854775808"}, {api.OpShl, 3, 0, "3"}, {api.OpShl, 1, -1, "-9223372036854775808"},
		{api.OpShr, -8, 1, "-4"}, {api.OpShr, least, 63, "-1"}, {api.OpShr, greatest, 62, "1"}, {api.OpShr, 5, 64, "5"},
		{api.OpAnd, 12, 10, "8"}, {api.OpAnd, -1, least, "-9223372036854775808"},
		{api.OpXor, 12, 10, "6"}, {api.OpXor, -1, 0, "-1"}, {api.OpXor, least, greatest, "-1"},
		{api.OpLt, 1, 2, "true"}, {api.OpLt, 2, 2, "false"}, {api.OpLt, least, greatest, "true"}, {api.OpLt, greatest, least, "false"},
		{api.OpLe, 2, 2, "true"}, {api.OpLe, 3, 2, "false"}, {api.OpLe, least, least, "true"}, {api.OpLe, 0, -1, "false"},
	} {
		holdCores(t, cores{numbered(api.COp, c.op, num(c.a), num(c.b)), "done " + c.want})
	}
	for _, n := range []int{0, 1, -1, least, greatest} {
		holdCores(t,
			cores{numbered(api.COp, api.OpDiv, num(n), num(0)), "trap 1"},
			cores{numbered(api.COp, api.OpMod, num(n), num(0)), "trap 1"},
		)
	}
}

// P11.1: each operation is word's Bin, whatever the numbers are; of Lt and Le it is true or false.
func TestOperationsAsBin(t *testing.T) {
	numbers := []int{math.MinInt64, math.MinInt64 + 1, -65, -64, -2, -1, 0, 1, 2, 63, 64, 65, 1 << 32, math.MaxInt64 - 1, math.MaxInt64}
	for op := range api.Ops {
		for _, a := range numbers {
			for _, b := range numbers {
				n, e := word.Bin(op, a, b)
				want := "done " + fmt.Sprint(n)
				switch {
				case e == api.ErrZero:
					want = "trap 1"
				case op == api.OpLt || op == api.OpLe:
					want = "done " + fmt.Sprint(n == 1)
				}
				holdCores(t, cores{numbered(api.COp, op, num(a), num(b)), want})
			}
		}
	}
}

// P11.1: CNot and CNeg.
func TestNotAndNeg(t *testing.T) {
	holdCores(t,
		cores{core(api.CNot, boolean(0)), "done true"},
		cores{core(api.CNot, boolean(1)), "done false"},
		cores{core(api.CNot, core(api.CNot, boolean(1))), "done true"},
		cores{core(api.CNeg, num(0)), "done 0"},
		cores{core(api.CNeg, num(7)), "done -7"},
		cores{core(api.CNeg, num(-7)), "done 7"},
		cores{core(api.CNeg, num(math.MaxInt64)), "done -9223372036854775807"},
		cores{core(api.CNeg, num(math.MinInt64)), "done -9223372036854775808"},
	)
	holdRuns(t,
		runs{"fn main(x) = not (1 < 2) or - -3 == 3;", "done true"},
		runs{"fn main(x) = -9223372036854775807 - 2;", "done 9223372036854775807"},
		runs{"fn main(x) = (5 ^ 3 & 6) << 2 >> 1 % 4;", "done 2"},
	)
}

// P11.1: CEq, of two of each tag and of two tags.
func TestEqual(t *testing.T) {
	equal := func(a, b api.Core) api.Core { return core(api.CEq, a, b) }
	values := [api.Tags]api.Core{nothing(), boolean(0), num(0), str(""), rec(""), fn(num(0))}
	for i, a := range values {
		for j, b := range values {
			want := "done false"
			switch {
			case i == j && i >= api.TagRec:
				want = "trap 3"
			case i == j:
				want = "done true"
			}
			holdCores(t, cores{equal(a, b), want})
		}
	}
	holdCores(t,
		cores{equal(boolean(1), boolean(1)), "done true"},
		cores{equal(boolean(1), boolean(0)), "done false"},
		cores{equal(num(1), num(-1)), "done false"},
		cores{equal(num(math.MinInt64), num(math.MinInt64)), "done true"},
		cores{equal(num(1<<62), num(1<<62+1)), "done false"},
		cores{equal(num(1), boolean(1)), "done false"},
		cores{equal(str("ab"), core(api.CCat, str("a"), str("b"))), "done true"},
		cores{equal(str("ab"), str("aB")), "done false"},
		cores{equal(str("a"), str("a ")), "done false"},
		cores{equal(str("1"), num(1)), "done false"},
		cores{equal(str("null"), nothing()), "done false"},
		// Records and functions can't be compared, the same ones and coerced ones neither.
		cores{let(rec("a", num(1)), equal(variable(1), variable(1))), "trap 3"},
		cores{equal(rec("a", num(1)), rec("b", num(1))), "trap 3"},
		cores{equal(global(0), global(0)), "trap 3"},
		cores{equal(global(0), fn(num(1))), "trap 3"},
		cores{let(cast(0, "any", "{a: int}", rec("a", num(1))), equal(variable(1), variable(1))), "trap 3"},
		cores{equal(rec("a", num(1)), cast(0, "any", "{a: str}", rec("a", num(1)))), "trap 3"},
		cores{equal(cast(0, "any", "int -> int", global(0)), global(0)), "trap 3"},
		cores{equal(cast(0, "any", "int -> int", global(0)), rec("a", num(1))), "done false"},
		cores{equal(cast(0, "any", "{a: int}", rec("a", num(1))), num(1)), "done false"},
	)
	holdRuns(t,
		runs{"fn main(x) = x == null;", "done true"},
		runs{"fn main(x) = main == main;", "trap 3"},
		runs{"fn main(x) = {a: print(1)} == {};", "print 1; trap 3"},
		runs{`fn main(x) = "a" ++ "b" == "ab";`, "done true"},
	)
}

// P11.1: CCat, up to MaxConcat bytes.
func TestConcat(t *testing.T) {
	joined := func(a, b int) api.Core {
		return core(api.CCat, str(strings.Repeat("a", a)), str(strings.Repeat("b", b)))
	}
	holdCores(t,
		cores{joined(0, 0), `done ""`},
		cores{joined(2, 0), `done "aa"`},
		cores{joined(0, 2), `done "bb"`},
		cores{joined(2, 3), `done "aabbb"`},
		cores{joined(4096, 0), `done "` + strings.Repeat("a", 64) + `"..`},
		cores{joined(0, 4096), `done "` + strings.Repeat("b", 64) + `"..`},
		cores{joined(10, 4086), `done "` + strings.Repeat("a", 10) + strings.Repeat("b", 54) + `"..`},
		cores{joined(4096, 1), "trap 4"},
		cores{joined(1, 4096), "trap 4"},
		cores{joined(2048, 2049), "trap 4"},
		cores{joined(4096, 4096), "trap 4"},
		cores{core(api.CEq, joined(4000, 96), core(api.CCat, str(strings.Repeat("a", 4000)+strings.Repeat("b", 95)), str("b"))), "done true"},
	)
	// By texts: 256 times 16 bytes, and then one more.
	double := "fn d(s: str): str = s ++ s; fn big(x): str = d(d(d(d(d(d(d(d(\"0123456789abcdef\")))))))); "
	holdRuns(t,
		runs{double + `fn main(x) = big(x) ++ "";`, `done "` + strings.Repeat("0123456789abcdef", 4) + `"..`},
		runs{double + `fn main(x) = let a = print(1); big(x) ++ "!";`, "print 1; trap 4"},
		runs{double + `fn main(x) = d(big(x));`, "trap 4"},
	)
}

// P11.1: CRead, with numbers and with none left.
func TestRead(t *testing.T) {
	read := core(api.CRead)
	sum := func(a, b api.Core) api.Core { return numbered(api.COp, api.OpAdd, a, b) }
	for _, c := range []struct {
		body  api.Core
		input []int
		want  string
	}{
		{read, nil, "trap 2"},
		{read, []int{}, "trap 2"},
		{read, []int{7}, "read 7; done 7"},
		{read, []int{7, 8}, "read 7; done 7"},
		{read, []int{-1 << 63}, "read -9223372036854775808; done -9223372036854775808"},
		{read, []int{1<<63 - 1}, "read 9223372036854775807; done 9223372036854775807"},
		{sum(read, read), []int{7}, "read 7; trap 2"},
		{sum(read, read), []int{7, 0}, "read 7; read 0; done 7"},
		{numbered(api.COp, api.OpSub, read, sum(read, read)), []int{1, 20, 300}, "read 1; read 20; read 300; done -319"},
		{let(core(api.CPrint, read), read), []int{3, 4}, "read 3; print 3; read 4; done 4"},
		{num(1), []int{3, 4}, "done 1"},
	} {
		if got := told(Run(byHand(c.body), c.input, plenty)); got != c.want {
			t.Errorf("%v of %v: %s, not %s", c.body, c.input, got, c.want)
		}
	}
	holdRuns(t, runs{"fn main(x) = let a = read() + read() + read(); read();", "read 5; read -6; read 7; trap 2"})
}
