package bytes

import (
	"math"
	"runtime"
	"runtime/debug"
	"slices"
	"strings"
	"testing"

	"gradus/api"
)

// samples are codes of all parts, small ones.
func samples() []api.Code {
	var l []api.Code
	for _, k := range codes() {
		l = append(l, k.code)
	}
	c := chance(314159265358979)
	for range 40 {
		l = append(l, c.code())
	}
	return l
}

// P17.2: codes that are cut off, at each place; and with bytes behind them.
func TestCutOff(t *testing.T) {
	for _, c := range samples() {
		b := Encode(c)
		for n := range len(b) {
			holdWrong(t, b[:n])
			// What is behind a slice is none of it.
			holdWrong(t, b[:n:n])
		}
		for _, more := range []string{"00", "02", "80", "ff", "00 00", "00 00 00 00 00 00 00", "80 00", "80 01"} {
			holdWrong(t, append(slices.Clone(b), raw(more)...))
		}
		holdWrong(t, slices.Concat(b, b))
		holdWrong(t, slices.Concat(raw("00"), b, raw("00")))
	}
}

// P17.2: a first number that is neither 0 nor 1.
func TestFirstNumber(t *testing.T) {
	for _, c := range samples() {
		l := pieces(c)
		for _, n := range []int{-1, 2, -2, 3, 64, 128, 256, -64, -65, math.MaxInt, math.MinInt, math.MinInt + 1, 1 << 62} {
			holdWrong(t, join(put(l, 0, number(n))))
		}
	}
}

// put is pieces with others in the place of one.
func put(l []piece, at int, b []byte) []piece {
	l = slices.Clone(l)
	l[at].bytes = b
	return l
}

// P17.2: what is no number by word's Get, in each place where a number stands.
func TestNoNumbers(t *testing.T) {
	for _, c := range samples() {
		l := pieces(c)
		for at, p := range l {
			if !p.number {
				continue
			}
			longer := slices.Clone(p.bytes)
			longer[len(longer)-1] |= 128
			for _, b := range [][]byte{
				nil, append(longer, 0), slices.Concat(longer, raw("80 00")), slices.Concat(longer, raw("80 80 80 80 80 80 80 80 80 00")),
				raw("80 00"), raw("82 00"), raw("ff 80 00"), raw("82 80 80 80 80 80 80 80 80 00"),
				raw("ff ff ff ff ff ff ff ff ff 02"), raw("80 80 80 80 80 80 80 80 80 02"), raw("80 80 80 80 80 80 80 80 80 7f"),
				raw("80 80 80 80 80 80 80 80 80 80 01"), raw("80 80 80 80 80 80 80 80 80 81 00"), raw("ff ff ff ff ff ff ff ff ff ff ff 7f"),
			} {
				spoilt := put(l, at, b)
				if b == nil {
					spoilt = l[:at]
				}
				holdWrong(t, join(spoilt))
			}
		}
	}
}

// P17.2: lists and texts of fewer than 0, of as many as there are bytes left, of more.
func TestWrongLists(t *testing.T) {
	met := 0
	for _, c := range samples() {
		l := pieces(c)
		for at, p := range l {
			if !p.list {
				continue
			}
			left := len(join(l[at+1:]))
			for _, n := range []int{-1, -2, -64, -65, math.MinInt, math.MinInt + 1, math.MaxInt, math.MaxInt - 1, left + 1, left + 2, 2*left + 64, 1 << 32, 1 << 40, 1 << 62} {
				holdWrong(t, join(put(l, at, number(n))))
			}
			if left > 0 {
				holdWrong(t, join(put(l, at, number(left))))
				met++
			}
		}
	}
	if met < 1000 {
		t.Error(met)
	}
}

// allocated is how many bytes of memory a call takes in all, those that it gives back again too.
func allocated(call func()) uint64 {
	var before, after runtime.MemStats
	runtime.ReadMemStats(&before)
	call()
	runtime.ReadMemStats(&after)
	return after.TotalAlloc - before.TotalAlloc
}

// P1, P17.2: lists that are told to be very long, within one another, take no room for what is not there.
func TestLongListsOfNothing(t *testing.T) {
	hold := func(what string, b []byte, most uint64) {
		t.Helper()
		var c api.Code
		var e api.Errno
		if taken := allocated(func() { c, e = Decode(b) }); taken > most {
			t.Errorf("%s: %d bytes", what, taken)
		}
		holdNone(t, b, c, e, api.ErrForm)
	}
	// fill makes them as many as there may be, of a byte that can't be read.
	fill := func(b []byte, with byte) []byte {
		return append(b, slices.Repeat([]byte{with}, 1<<20-len(b))...)
	}
	many := number(1<<20 - 1000)
	for ahead := range 5 {
		b := slices.Concat(make([]byte, 2+ahead), many)
		hold("a list", b, 4000)
		hold("a list ahead of no numbers", fill(b, 128), 4000)
	}
	for _, within := range [][]byte{slices.Concat(make([]byte, 3), many), slices.Concat(make([]byte, 4), many)} {
		b := slices.Concat(make([]byte, 5), many, slices.Repeat(within, 40))
		hold("coercions", b, 40000)
		hold("coercions ahead of no numbers", fill(b, 128), 40000)
		hold("coercions ahead of noughts", fill(b, 0), 40000)
		one := slices.Concat(make([]byte, 5), many, slices.Repeat(within, 39))
		hold("coercions ahead of noughts that are some", fill(one, 0), 400<<20)
	}
	hold("functions", fill(slices.Concat(make([]byte, 6), many, make([]byte, 2), many), 128), 4000)
	hold("names", fill(slices.Concat(make([]byte, 4), many, many, many), 128), 2<<20)
	for ahead := range 5 {
		hold("noughts", fill(slices.Concat(make([]byte, 2+ahead), number(1<<20-12)), 0), 400<<20)
	}
}

// P1, P17.1: coercions within one another, as many as the document's bound admits, and more.
func TestVeryDeep(t *testing.T) {
	defer debug.SetMaxStack(debug.SetMaxStack(128 << 20))
	for _, in := range []string{"f", "r", "fr"} {
		const most = 1<<16 + 1
		c := api.Code{Cos: []api.Co{{}, nested(most, in), nested(5, in)}}
		b := Encode(c)
		if want := plain(c); !slices.Equal(b, want) {
			t.Errorf("%s: %d bytes, not %d", in, len(b), len(want))
		}
		for _, deep := range []int{most + 1, most + 2, 1 << 20} {
			if b := Encode(api.Code{Cos: []api.Co{{}, nested(deep, in)}}); b != nil {
				t.Errorf("%s, %d: %d bytes", in, deep, len(b))
			}
		}
		holdWrong(t, b)
	}
}

// plain is the bytes of a code with coercions alone, some of which are very deep: the pieces would be copied too often.
func plain(c api.Code) []byte {
	var out []byte
	var put func(l []api.Co)
	put = func(l []api.Co) {
		out = append(out, number(len(l))...)
		for _, c := range l {
			out = append(out, join(slices.Concat(all(c.Tags, num), num(len(c.Needs)), all(c.Names, text)))...)
			put(c.Fields)
			put(c.Fun)
		}
	}
	out = append(out, make([]byte, 5)...)
	put(c.Cos)
	return append(out, 0)
}

// P1: a coercion that is not too deep by itself stands where it is, though it was met ahead of that.
func TestDeepTwice(t *testing.T) {
	for _, in := range []string{"f", "r"} {
		around := nested(1<<15+1, "r")
		last := innermost(&around)
		last.Fields = []api.Co{{}, nested(1<<15, in), {}}
		apart := api.Co{Fields: last.Fields}
		both := api.Co{Fun: last.Fields, Fields: last.Fields}
		hold := func(whole bool, l ...api.Co) {
			t.Helper()
			c := api.Code{Cos: l}
			var want []byte
			if whole {
				want = plain(c)
			}
			if b := Encode(c); !slices.Equal(b, want) {
				t.Errorf("%d by %s: %d bytes, not %d", len(l), in, len(b), len(want))
			}
		}
		hold(true, around)
		hold(true, apart, around)
		hold(true, around, apart)
		hold(true, both)
		innermost(&last.Fields[1]).Fields = make([]api.Co, 1)
		hold(false, around)
		hold(false, apart, around)
		hold(false, around, apart)
		hold(true, apart, both)
	}
}

// innermost is the last one of a chain.
func innermost(c *api.Co) *api.Co {
	for {
		switch {
		case len(c.Fields) > 0:
			c = &c.Fields[0]
		case len(c.Fun) > 0:
			c = &c.Fun[0]
		default:
			return c
		}
	}
}

// P1: coercions that stand within themselves come to an end, and so do those that are all but endless.
func TestEndless(t *testing.T) {
	var l []api.Co
	for _, in := range []string{"f", "r"} {
		for _, long := range []int{1, 2, 50} {
			c := []api.Co{nested(long, in)}
			innermost(&c[0]).Fields = c
			l = append(l, c[0])
			other := []api.Co{nested(long, in)}
			last := innermost(&other[0])
			last.Fun = slices.Concat(make([]api.Co, 3), other)
			last.Fun[1] = other[0]
			l = append(l, other[0])
		}
	}
	bush, tree, mixed := api.Co{}, api.Co{}, api.Co{}
	for range 70 {
		bush, tree = api.Co{Fields: []api.Co{bush, bush}}, api.Co{Fun: []api.Co{tree, tree, tree}}
		twice := []api.Co{mixed}
		mixed = api.Co{Fields: twice, Fun: twice}
	}
	for i, c := range append(l, bush, tree, mixed) {
		for _, k := range []api.Code{{Cos: []api.Co{c}}, {Cos: []api.Co{{}, {Fields: []api.Co{{}, c}}}}, {Cos: []api.Co{c, c}}} {
			if b := Encode(k); b != nil {
				t.Errorf("%d: %d bytes", i, len(b))
			}
		}
	}
}

// P17.1: what stands in many places is written as often.
func TestManyPlaces(t *testing.T) {
	bush := api.Co{Tags: []int{7}, Names: []string{"a"}}
	for range 12 {
		twice := []api.Co{bush}
		bush = api.Co{Needs: []api.Need{{Name: "b", Label: 1}}, Fields: slices.Concat(twice, twice), Fun: twice}
	}
	c := api.Code{Cos: []api.Co{bush, bush}}
	b := Encode(c)
	own := bare(c)
	if want := Encode(own); !slices.Equal(b, want) || len(b) < 1<<21 {
		t.Error(len(b), len(want))
	}
	twice := []api.Co{{Tags: []int{3}}}
	code := []api.Instr{{Op: 1}}
	names := []string{"a", "b"}
	holdCode(t, api.Code{Strs: names, Shapes: [][]string{names, names}, Cos: []api.Co{{Names: names, Fields: twice, Fun: twice}}, Procs: []api.Proc{{Code: code}, {Code: code}}})
}

// P1: codes with as many items as the document's bound admits, and with one more: nothing is written to tell this.
func TestBound(t *testing.T) {
	const whole = math.MaxInt32
	long := strings.Repeat("x", 1<<24-1)
	// Each of the strings is 2^24 items; all of them are 2^31 - 2^24.
	strs := slices.Repeat([]string{long}, 127)
	rest := whole - 127<<24
	names := slices.Repeat([]string{long}, 127)
	needs := slices.Repeat([]api.Need{{Name: long[1:]}}, 127)
	with := func(over int) []api.Code {
		left := rest + over
		within := api.Co{Names: names, Fields: []api.Co{{Tags: make([]int, left-17)}}}
		two := []api.Co{{Names: names[:63]}} // 63 * 2^24 + 5
		more := []api.Co{{}, {Names: names}}
		return []api.Code{
			{Strs: strs, Ints: make([]int, left-7)},
			{Strs: append(slices.Clone(strs), long[:left-8])},
			{Strs: names, Shapes: [][]string{nil, {long[:left-10]}}},
			{Shapes: [][]string{names, nil, {"a", ""}, make([]string, left-14)}},
			{Cos: []api.Co{{Names: names, Tags: make([]int, left-7-5)}}},
			{Cos: []api.Co{{Needs: needs, Tags: make([]int, left-7-5)}}},
			{Cos: []api.Co{{Needs: needs[:40], Names: names[:41]}, {Tags: make([]int, left-7-10)}}, Strs: strs[:46]},
			{Cos: []api.Co{within}},
			{Cos: []api.Co{{Fields: two}, {Fun: two}}, Ints: make([]int, left-7-20+1<<24)},
			{Cos: []api.Co{{Fields: two, Fun: two}}, Ints: make([]int, left-7-15+1<<24)},
			{Cos: []api.Co{{Fields: more[:1]}, {Fields: more}}, Ints: make([]int, left-7-25)},
			{Cos: []api.Co{{Fun: more}, {Fields: more[:1], Fun: more[:1]}}, Ints: make([]int, left-7-30)},
			{Strs: strs, Procs: []api.Proc{{Code: make([]api.Instr, (left-7-3-left%4)/4)}}, Ints: make([]int, left-7-3-4*((left-7-3-left%4)/4))},
		}
	}
	for i, c := range with(0) {
		if !bounded(c) {
			t.Errorf("%d is not bounded", i)
		}
	}
	for i, c := range with(1) {
		// Were it bounded, it would be written.
		if bounded(c) {
			t.Errorf("%d is bounded", i)
		} else if b := Encode(c); b != nil {
			t.Errorf("%d: %d bytes", i, len(b))
		}
	}
}

// P1: lists that stand in very many places come to an end soon.
func TestVeryMany(t *testing.T) {
	const many = 1 << 15
	long := strings.Repeat("x", many)
	names := slices.Repeat([]string{long[:30]}, many)
	for i, c := range []api.Code{
		{Strs: slices.Repeat([]string{long}, 2*many)}, {Shapes: slices.Repeat([][]string{names}, many)},
		{Shapes: [][]string{slices.Repeat([]string{long}, 2*many)}},
		{Cos: slices.Repeat([]api.Co{{Tags: make([]int, many)}}, 2*many)}, {Cos: slices.Repeat([]api.Co{{Names: names}}, many)},
		{Cos: slices.Repeat([]api.Co{{Needs: slices.Repeat([]api.Need{{Name: long[:30]}}, many)}}, many)},
		{Cos: slices.Repeat([]api.Co{{Fields: make([]api.Co, many)}}, many)}, {Cos: slices.Repeat([]api.Co{{Fun: make([]api.Co, many)}}, many)},
		{Cos: []api.Co{{Needs: slices.Repeat([]api.Need{{Name: long}}, 2*many)}}},
		{Procs: slices.Repeat([]api.Proc{{Code: make([]api.Instr, many)}}, many)},
	} {
		if b := Encode(c); b != nil {
			t.Errorf("%d: %d bytes", i, len(b))
		}
	}
}
