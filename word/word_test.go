package word

import (
	"bytes"
	"math"
	"math/big"
	"testing"

	"gradus/api"
)

// numbers are those around every power of two, with both signs, and some that lie between.
func numbers() []int {
	l := []int{0, 3, 7, 10, 300, 12345678901, -3, -7, -10, -300, -12345678901}
	for k := range 64 {
		p := 1 << k
		l = append(l, p-1, p, p+1, -p-1, -p, -p+1)
	}
	seed := uint64(88172645463325252)
	for range 60 {
		seed ^= seed << 13
		seed ^= seed >> 7
		seed ^= seed << 17
		l = append(l, int(seed), int(seed>>20), int(seed>>40))
	}
	return l
}

func wide(n int) *big.Int { return big.NewInt(int64(n)) }

// lowest is what of a number counts in so many bits, with a sign.
func lowest(x *big.Int, bits int) int {
	span := new(big.Int).Lsh(big.NewInt(1), uint(bits))
	half := new(big.Int).Rsh(span, 1)
	r := new(big.Int).Mod(x, span)
	if r.Cmp(half) >= 0 {
		r.Sub(r, span)
	}
	return int(r.Int64())
}

// meant is what an operation means, worked out without a bound.
func meant(op, a, b int) int {
	x, y, r := wide(a), wide(b), new(big.Int)
	count := uint(new(big.Int).Mod(y, big.NewInt(64)).Uint64())
	switch op {
	case api.OpAdd:
		r.Add(x, y)
	case api.OpSub:
		r.Sub(x, y)
	case api.OpMul:
		r.Mul(x, y)
	case api.OpDiv:
		r.Quo(x, y)
	case api.OpMod:
		r.Rem(x, y)
	case api.OpShl:
		r.Lsh(x, count)
	case api.OpShr:
		r.Rsh(x, count)
	case api.OpAnd:
		r.And(x, y)
	case api.OpXor:
		r.Xor(x, y)
	case api.OpLt:
		if x.Cmp(y) < 0 {
			r.SetInt64(1)
		}
	case api.OpLe:
		if x.Cmp(y) <= 0 {
			r.SetInt64(1)
		}
	}
	return lowest(r, 64)
}

// P1.1
func TestBinMeans(t *testing.T) {
	l := numbers()
	for op := range api.Ops {
		for _, a := range l {
			for _, b := range l {
				if b == 0 && (op == api.OpDiv || op == api.OpMod) {
					continue
				}
				if n, e := Bin(op, a, b); n != meant(op, a, b) || e != api.OK {
					t.Fatalf("Bin(%d, %d, %d) = %d, %d, not %d", op, a, b, n, e, meant(op, a, b))
				}
			}
		}
	}
}

// P1.1
func TestBinEdges(t *testing.T) {
	const least, most = math.MinInt, math.MaxInt
	for _, x := range []struct{ op, a, b, n int }{
		{0, most, 1, least}, {0, least, -1, most}, {0, 2, 3, 5},
		{1, least, 1, most}, {1, 0, least, least}, {1, 2, 3, -1},
		{2, least, -1, least}, {2, most, 2, -2}, {2, 1 << 32, 1 << 32, 0}, {2, -3, 5, -15},
		{3, 7, 2, 3}, {3, -7, 2, -3}, {3, 7, -2, -3}, {3, -7, -2, 3}, {3, least, -1, least}, {3, 0, 5, 0},
		{4, 7, 2, 1}, {4, -7, 2, -1}, {4, 7, -2, 1}, {4, -7, -2, -1}, {4, least, -1, 0}, {4, 6, 3, 0},
		{5, 1, 0, 1}, {5, 1, 63, least}, {5, 1, 64, 1}, {5, 1, 65, 2}, {5, 1, -1, least}, {5, 1, -64, 1}, {5, 3, 63, least}, {5, 1, most, least}, {5, 5, least, 5},
		{6, -8, 0, -8}, {6, -8, 1, -4}, {6, -1, 63, -1}, {6, least, 63, -1}, {6, most, 62, 1}, {6, -8, 64, -8}, {6, -8, 65, -4}, {6, -8, -63, -4}, {6, 8, -1, 0}, {6, -8, -1, -1}, {6, 8, most, 0}, {6, 8, least, 8},
		{7, 12, 10, 8}, {7, -1, 5, 5}, {7, least, most, 0},
		{8, 12, 10, 6}, {8, -1, 5, -6}, {8, least, most, -1},
		{9, 1, 2, 1}, {9, 2, 2, 0}, {9, 3, 2, 0}, {9, least, most, 1}, {9, most, least, 0}, {9, -1, 0, 1},
		{10, 1, 2, 1}, {10, 2, 2, 1}, {10, 3, 2, 0}, {10, least, most, 1}, {10, most, least, 0}, {10, 0, -1, 0},
	} {
		if n, e := Bin(x.op, x.a, x.b); n != x.n || e != api.OK {
			t.Errorf("Bin(%d, %d, %d) = %d, %d, not %d", x.op, x.a, x.b, n, e, x.n)
		}
	}
}

// P1.1, R4: an error, and nothing beside it.
func TestBinErrors(t *testing.T) {
	for _, op := range []int{api.OpDiv, api.OpMod} {
		for _, a := range numbers() {
			if n, e := Bin(op, a, 0); n != 0 || e != api.ErrZero {
				t.Fatalf("Bin(%d, %d, 0) = %d, %d", op, a, n, e)
			}
		}
	}
	for _, op := range []int{-1, 11, 12, 64, 256, -11, 1 << 32, 1<<32 + 3, math.MaxInt, math.MinInt} {
		for _, b := range []int{0, 1, -1, 9} {
			if n, e := Bin(op, 5, b); n != 0 || e != api.ErrArg {
				t.Errorf("Bin(%d, 5, %d) = %d, %d", op, b, n, e)
			}
		}
	}
}

// P1.2
func TestShow(t *testing.T) {
	for _, n := range numbers() {
		if s := Show(n); s != wide(n).String() {
			t.Errorf("Show(%d) = %q", n, s)
		}
	}
	for _, x := range []struct {
		n int
		s string
	}{{0, "0"}, {-5, "-5"}, {10, "10"}, {math.MaxInt, "9223372036854775807"}, {math.MinInt, "-9223372036854775808"}} {
		if s := Show(x.n); s != x.s {
			t.Errorf("Show(%d) = %q", x.n, s)
		}
	}
}

// P1.2
func TestParse(t *testing.T) {
	for _, x := range []struct {
		s string
		n int
	}{
		{"0", 0}, {"1", 1}, {"9", 9}, {"10", 10}, {"100", 100}, {"1234567890", 1234567890},
		{"9223372036854775799", 9223372036854775799},
		{"9223372036854775806", math.MaxInt - 1}, {"9223372036854775807", math.MaxInt},
	} {
		if n, ok := Parse(x.s); n != x.n || !ok {
			t.Errorf("Parse(%q) = %d, %t", x.s, n, ok)
		}
	}
}

// P1.2
func TestParseRefuses(t *testing.T) {
	for _, s := range []string{
		"", "00", "01", "007", "0000000000000000000001",
		"9223372036854775808", "9223372036854775809", "9223372036854775810", "9999999999999999999",
		"10000000000000000000", "18446744073709551615", "18446744073709551616", "18446744073709551617", "36893488147419103233", "92233720368547758070", "99999999999999999999999999999999",
		"-", "-1", "-0", "+1", " 1", "1 ", "1\n", "1_000", "1.0", "1e3", "0x1", "0b1", "a", "1a", "a1", "1/", "1:", "/", ":", "\x00", "1\x00", "\xff", "1\xb9", "٣", "１", "twelve",
	} {
		if n, ok := Parse(s); n != 0 || ok {
			t.Errorf("Parse(%q) = %d, %t", s, n, ok)
		}
	}
}

// P1.2: one byte that is no digit, whichever and wherever it is.
func TestParseBytes(t *testing.T) {
	for c := range 256 {
		digit := c >= '0' && c <= '9'
		for _, s := range []string{string([]byte{byte(c)}), string([]byte{'1', byte(c)}), string([]byte{'1', byte(c), '2'})} {
			if _, ok := Parse(s); ok != digit {
				t.Errorf("Parse(%q): %t", s, ok)
			}
		}
	}
}

// P1.3
func TestFit(t *testing.T) {
	for _, n := range numbers() {
		for bits := 1; bits <= 64; bits++ {
			if m := Fit(n, bits); m != lowest(wide(n), bits) {
				t.Fatalf("Fit(%d, %d) = %d, not %d", n, bits, m, lowest(wide(n), bits))
			}
		}
	}
	for _, x := range []struct{ n, bits, m int }{
		{255, 8, -1}, {128, 8, -128}, {127, 8, 127}, {256, 8, 0}, {-129, 8, 127},
		{0, 1, 0}, {1, 1, -1}, {2, 1, 0}, {-1, 1, -1},
		{math.MaxInt, 64, math.MaxInt}, {math.MinInt, 64, math.MinInt},
		{math.MaxInt, 63, -1}, {math.MinInt, 63, 0},
	} {
		if m := Fit(x.n, x.bits); m != x.m {
			t.Errorf("Fit(%d, %d) = %d", x.n, x.bits, m)
		}
	}
}

// P1.3
func TestFitOutside(t *testing.T) {
	for _, bits := range []int{0, 65, 66, 128, 1 << 32, 1<<32 + 8, math.MaxInt, -1, -8, -64, math.MinInt, math.MinInt + 8} {
		for _, n := range []int{0, 1, -1, 255, math.MaxInt, math.MinInt} {
			if m := Fit(n, bits); m != 0 {
				t.Errorf("Fit(%d, %d) = %d", n, bits, m)
			}
		}
	}
}

// folded is the number without a sign that P1.4 names.
func folded(n int) *big.Int {
	x := new(big.Int).Mul(wide(n), big.NewInt(2))
	if n < 0 {
		x.Neg(x).Sub(x, big.NewInt(1))
	}
	return x
}

// groups is that number in groups of seven bits.
func groups(n int) []byte {
	x := folded(n)
	l := []byte{byte(new(big.Int).Mod(x, big.NewInt(128)).Uint64())}
	for x.Rsh(x, 7); x.Sign() > 0; x.Rsh(x, 7) {
		l[len(l)-1] += 128
		l = append(l, byte(new(big.Int).Mod(x, big.NewInt(128)).Uint64()))
	}
	return l
}

// P1.4
func TestPut(t *testing.T) {
	for _, n := range numbers() {
		if b := Put(nil, n); !bytes.Equal(b, groups(n)) {
			t.Errorf("Put(nothing, %d) = % x, not % x", n, b, groups(n))
		}
		if b := Put([]byte("ab\x80"), n); !bytes.Equal(b, append([]byte("ab\x80"), groups(n)...)) {
			t.Errorf("Put(ab, %d) = % x", n, b)
		}
	}
	for _, x := range []struct {
		n int
		s string
	}{
		{0, "\x00"}, {-1, "\x01"}, {1, "\x02"}, {63, "\x7e"}, {-64, "\x7f"}, {64, "\x80\x01"}, {-65, "\x81\x01"}, {300, "\xd8\x04"},
		{math.MaxInt, "\xfe\xff\xff\xff\xff\xff\xff\xff\xff\x01"}, {math.MinInt, "\xff\xff\xff\xff\xff\xff\xff\xff\xff\x01"},
	} {
		if b := Put([]byte{}, x.n); string(b) != x.s {
			t.Errorf("Put(nothing, %d) = % x", x.n, b)
		}
	}
}

// P1.4, R3: what is handed to Put stays as it was, also behind its end, and its answer is new memory.
func TestPutIsNewMemory(t *testing.T) {
	for _, n := range []int{0, -1, 64, math.MaxInt, math.MinInt} {
		room := []byte("abcdefghijklmnopqrstuvwxyz")
		for _, given := range [][]byte{room[:0], room[:3], room[:25], room, room[2:4:4]} {
			kept := bytes.Clone(given)
			b := Put(given, n)
			first := bytes.Clone(b)
			for i := range b[:cap(b)] {
				b[:cap(b)][i] = '!'
			}
			if string(room) != "abcdefghijklmnopqrstuvwxyz" || !bytes.Equal(given, kept) {
				t.Fatalf("Put(%q, %d) has changed what was handed in: %q", kept, n, room)
			}
			again := Put(given, n)
			if !bytes.Equal(again, first) {
				t.Errorf("Put(%q, %d) = %q, and then %q", kept, n, first, again)
			}
		}
	}
}

// P1.4, R3: a change to what was handed in does not reach the answer.
func TestPutKeepsNothing(t *testing.T) {
	given := []byte("abc")
	b, twin := Put(given, 64), Put(given, 64)
	given[0] = 'z'
	b[1] = 'y'
	if string(twin) != "abc\x80\x01" || string(b) != "ayc\x80\x01" {
		t.Errorf("%q, %q", b, twin)
	}
}

// P1.4
func TestGet(t *testing.T) {
	for _, x := range []struct {
		s    string
		n, k int
	}{
		{"\x00", 0, 1}, {"\x01", -1, 1}, {"\x02", 1, 1}, {"\x7f", -64, 1}, {"\x80\x01", 64, 2}, {"\xff\x7f", -8192, 2},
		{"\x00\x00", 0, 1}, {"\x02\x80\x80", 1, 1}, {"\x80\x01\x00", 64, 2}, {"\x80\x80\x01", 8192, 3},
		{"\x02\xff\xff\xff\xff\xff\xff\xff\xff\x7f", 1, 1}, // the tenth byte is not the number's
		{"\xff\xff\xff\xff\xff\xff\xff\xff\x7f\xff", -1 << 62, 9},
		{"\x80\x80\x80\x80\x80\x80\x80\x80\x80\x01", 1 << 62, 10},
		{"\xfe\xff\xff\xff\xff\xff\xff\xff\xff\x01", math.MaxInt, 10},
		{"\xff\xff\xff\xff\xff\xff\xff\xff\xff\x01", math.MinInt, 10},
		{"\xff\xff\xff\xff\xff\xff\xff\xff\xff\x01\x7f", math.MinInt, 10},
	} {
		if n, k := Get([]byte(x.s)); n != x.n || k != x.k {
			t.Errorf("Get(% x) = %d, %d, not %d, %d", x.s, n, k, x.n, x.k)
		}
	}
}

// P1.4
func TestGetRefuses(t *testing.T) {
	for _, s := range []string{
		"", "\x80", "\xff", "\xff\xff\xff\xff\xff\xff\xff\xff\xff", // the bytes end
		"\xff\xff\xff\xff\xff\xff\xff\xff\xff\xff", "\x80\x80\x80\x80\x80\x80\x80\x80\x80\x80\x01", "\xff\xff\xff\xff\xff\xff\xff\xff\xff\x81\x00", // none of the first ten is below 128
		"\xff\xff\xff\xff\xff\xff\xff\xff\xff\x02", "\x80\x80\x80\x80\x80\x80\x80\x80\x80\x03", "\x80\x80\x80\x80\x80\x80\x80\x80\x80\x7f", // a tenth above 1
		"\x80\x00", "\xff\x00", "\x80\x80\x00", "\x81\x00\x01", "\x80\x80\x80\x80\x80\x80\x80\x80\x80\x00", "\xff\xff\xff\xff\xff\xff\xff\xff\x00", // a last group of 0
	} {
		if n, k := Get([]byte(s)); n != 0 || k != 0 {
			t.Errorf("Get(% x) = %d, %d", s, n, k)
		}
	}
	if n, k := Get(nil); n != 0 || k != 0 {
		t.Errorf("Get(nothing) = %d, %d", n, k)
	}
}

// P1.4: what Get takes is what Put writes, and it is left as it was.
func TestGetTakesOneFormOnly(t *testing.T) {
	for c := range 1 << 16 {
		b := []byte{byte(c), byte(c >> 8)}
		given := bytes.Clone(b)
		n, k := Get(given)
		if !bytes.Equal(b, given) {
			t.Fatalf("Get(% x) has changed it", b)
		}
		taken := b[0] < 128 || b[1] > 0 && b[1] < 128
		if taken != (k > 0) {
			t.Fatalf("Get(% x) = %d, %d", b, n, k)
		}
		if taken && !bytes.Equal(Put(nil, n), b[:k]) {
			t.Fatalf("Get(% x) = %d, %d, and Put is % x", b, n, k, Put(nil, n))
		}
	}
}

// P1.5
func TestThereAndBack(t *testing.T) {
	for _, n := range numbers() {
		if m, ok := Parse(Show(n)); ok != (n >= 0) || ok && m != n {
			t.Errorf("Parse of Show of %d: %d, %t", n, m, ok)
		}
		b := Put([]byte("xy"), n)
		if m, k := Get(b[2:]); m != n || k != len(b)-2 {
			t.Errorf("Get of Put of %d: %d, %d", n, m, k)
		}
		if m, k := Get(append(b[2:], 0xff, 0)); m != n || k != len(b)-2 {
			t.Errorf("Get of Put of %d and more: %d, %d", n, m, k)
		}
	}
}

// P1.5
func TestDivAndMod(t *testing.T) {
	l := numbers()
	for _, a := range l {
		for _, b := range l {
			if b == 0 {
				continue
			}
			q, e := Bin(api.OpDiv, a, b)
			r, f := Bin(api.OpMod, a, b)
			if q*b+r != a || e != api.OK || f != api.OK {
				t.Fatalf("%d by %d: %d, %d", a, b, q, r)
			}
		}
	}
}

// P1, R1, R5: no arguments make a call panic, and the same ones have the same answer again.
func TestAnyArguments(t *testing.T) {
	l := []int{math.MinInt, math.MinInt + 1, -65, -64, -1, 0, 1, 3, 4, 5, 6, 10, 11, 63, 64, 65, math.MaxInt}
	for _, op := range l {
		for _, a := range l {
			for _, b := range l {
				n, e := Bin(op, a, b)
				if m, f := Bin(op, a, b); n != m || e != f {
					t.Fatalf("Bin(%d, %d, %d)", op, a, b)
				}
				if e != api.OK && n != 0 {
					t.Fatalf("Bin(%d, %d, %d) = %d, %d", op, a, b, n, e)
				}
			}
			if Fit(op, a) != Fit(op, a) {
				t.Fatalf("Fit(%d, %d)", op, a)
			}
		}
	}
}
