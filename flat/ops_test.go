package flat

import (
	"fmt"
	"math"
	"strings"
	"testing"

	"gradus/api"
	"gradus/word"
)

// P14.1: operations of numbers, worked out by hand.
func TestOperations(t *testing.T) {
	const least, greatest = math.MinInt64, math.MaxInt64
	for _, c := range []struct {
		op, a, b int
		want     string
	}{
		{api.OpAdd, 2, 3, "5"}, {api.OpAdd, greatest, 1, "-9223372036854775808"},
		{api.OpSub, 2, 3, "-1"}, {api.OpSub, least, 1, "9223372036854775807"},
		{api.OpMul, -4, 3, "-12"}, {api.OpMul, greatest, 2, "-2"},
		{api.OpDiv, 7, 2, "3"}, {api.OpDiv, -7, 2, "-3"}, {api.OpDiv, least, -1, "-9223372036854775808"},
		{api.OpMod, 7, 2, "1"}, {api.OpMod, -7, 2, "-1"}, {api.OpMod, least, -1, "0"},
		{api.OpShl, 1, 65, "2"}, {api.OpShl, 1, 63, "-9223372036854775808"},
		{api.OpShr, -8, 1, "-4"}, {api.OpShr, greatest, 62, "1"},
		{api.OpAnd, 12, 10, "8"}, {api.OpXor, 12, 10, "6"}, {api.OpXor, least, greatest, "-1"},
		{api.OpLt, 1, 2, "true"}, {api.OpLt, 2, 2, "false"}, {api.OpLt, greatest, least, "false"},
		{api.OpLe, 2, 2, "true"}, {api.OpLe, 3, 2, "false"}, {api.OpLe, least, greatest, "true"},
	} {
		holdCores(t, tells("done "+c.want, numbered(api.COp, c.op, num(c.a), num(c.b))))
	}
	for _, n := range []int{0, 1, -1, least, greatest} {
		holdCores(t,
			tells("trap 1", numbered(api.COp, api.OpDiv, num(n), num(0))),
			tells("trap 1", numbered(api.COp, api.OpMod, num(n), num(0))),
		)
	}
}

// P14.1: each operation is word's Bin, whatever the numbers are; of Lt and Le it is true or false.
func TestOperationsAsBin(t *testing.T) {
	numbers := []int{math.MinInt64, -65, -2, -1, 0, 1, 2, 63, 64, 1 << 32, math.MaxInt64}
	for op := range api.Ops {
		for _, a := range numbers {
			for _, b := range numbers {
				n, e := word.Bin(op, a, b)
				want := "done " + fmt.Sprint(n)
				switch {
				case e == api.ErrZero:
					want = "trap 1"
				case op == api.OpLt || op == api.OpLe:
					want = "done " + fmt.Sprint(n == 1)
				}
				holdCores(t, tells(want, numbered(api.COp, op, num(a), num(b))))
			}
		}
	}
}

// P14.1: CNot and CNeg.
func TestNotAndNeg(t *testing.T) {
	holdCores(t,
		tells("done true", core(api.CNot, boolean(0))),
		tells("done false", core(api.CNot, boolean(1))),
		tells("done true", core(api.CNot, core(api.CNot, boolean(1)))),
		tells("done 0", core(api.CNeg, num(0))),
		tells("done -7", core(api.CNeg, num(7))),
		tells("done 7", core(api.CNeg, num(-7))),
		tells("done -9223372036854775807", core(api.CNeg, num(math.MaxInt64))),
		tells("done -9223372036854775808", core(api.CNeg, num(math.MinInt64))),
	)
	holdRuns(t,
		runs{"fn main(x) = not (1 < 2) or - -3 == 3;", "done true"},
		runs{"fn main(x) = -9223372036854775807 - 2;", "done 9223372036854775807"},
		runs{"fn main(x) = (5 ^ 3 & 6) << 2 >> 1 % 4;", "done 2"},
	)
}

// P14.1: CEq, of two of each tag and of two tags.
func TestEqual(t *testing.T) {
	equal := func(a, b api.Core) api.Core { return core(api.CEq, a, b) }
	values := [api.Tags]api.Core{nothing(), boolean(0), num(0), str(""), rec(""), global(1)}
	for i, a := range values {
		for j, b := range values {
			want := "done false"
			switch {
			case i == j && i >= api.TagRec:
				want = "trap 3"
			case i == j:
				want = "done true"
			}
			holdCores(t, tells(want, equal(a, b), num(1)))
		}
	}
	r := cast(0, "any", "{a: int}", rec("a", num(1)))
	f := cast(0, "any", "int -> int", global(1))
	holdCores(t,
		tells("done true", equal(boolean(1), boolean(1))),
		tells("done false", equal(boolean(1), boolean(0))),
		tells("done false", equal(num(1), num(-1))),
		tells("done true", equal(num(math.MinInt64), num(math.MinInt64))),
		tells("done false", equal(num(1<<62), num(1<<62+1))),
		tells("done false", equal(num(1), boolean(1))),
		tells("done true", equal(str("ab"), core(api.CCat, str("a"), str("b")))),
		tells("done false", equal(str("ab"), str("aB"))),
		tells("done false", equal(str("a"), str("a "))),
		tells("done false", equal(str("1"), num(1))),
		tells("done false", equal(str("null"), nothing())),
		// Records and functions can't be compared, the same ones and coerced ones neither.
		tells("trap 3", let(rec("a", num(1)), equal(variable(1), variable(1)))),
		tells("trap 3", equal(rec("a", num(1)), rec("b", num(1)))),
		tells("trap 3", equal(global(0), global(0))),
		tells("trap 3", equal(global(0), makes(1)), num(1)),
		tells("trap 3", let(r, equal(variable(1), variable(1)))),
		tells("trap 3", equal(rec("a", num(1)), r)),
		tells("trap 3", equal(f, global(1)), num(1)),
		tells("done false", equal(f, rec("a", num(1))), num(1)),
		tells("done false", equal(r, num(1))),
	)
	holdRuns(t,
		runs{"fn main(x) = x == null;", "done true"},
		runs{"fn main(x) = main == main;", "trap 3"},
		runs{"fn main(x) = {a: print(1)} == {};", "print 1; trap 3"},
		runs{`fn main(x) = "a" ++ "b" == "ab";`, "done true"},
	)
}

// P14.1: CCat, up to MaxConcat bytes.
func TestConcat(t *testing.T) {
	joined := func(a, b int) api.Core {
		return core(api.CCat, str(strings.Repeat("a", a)), str(strings.Repeat("b", b)))
	}
	holdCores(t,
		tells(`done ""`, joined(0, 0)),
		tells(`done "aa"`, joined(2, 0)),
		tells(`done "bb"`, joined(0, 2)),
		tells(`done "aabbb"`, joined(2, 3)),
		tells(`done "`+strings.Repeat("a", 64)+`"..`, joined(4096, 0)),
		tells(`done "`+strings.Repeat("b", 64)+`"..`, joined(0, 4096)),
		tells(`done "`+strings.Repeat("a", 10)+strings.Repeat("b", 54)+`"..`, joined(10, 4086)),
		tells("trap 4", joined(4096, 1)),
		tells("trap 4", joined(1, 4096)),
		tells("trap 4", joined(2048, 2049)),
		tells("trap 4", joined(4096, 4096)),
		tells("done true", core(api.CEq, joined(4000, 96), core(api.CCat, str(strings.Repeat("a", 4000)+strings.Repeat("b", 95)), str("b")))),
	)
	// By texts: 256 times 16 bytes, and then one more.
	double := "fn d(s: str): str = s ++ s; fn big(x): str = d(d(d(d(d(d(d(d(\"0123456789abcdef\")))))))); "
	holdRuns(t,
		runs{double + `fn main(x) = big(x) ++ "";`, `done "` + strings.Repeat("0123456789abcdef", 4) + `"..`},
		runs{double + `fn main(x) = let a = print(1); big(x) ++ "!";`, "print 1; trap 4"},
		runs{double + `fn main(x) = d(big(x));`, "trap 4"},
	)
}
