package bytes

import (
	"math"
	"slices"
	"strings"
	"testing"

	"gradus/api"
)

// allBytes is a text of each byte there is.
func allBytes() string {
	b := make([]byte, 256)
	for i := range b {
		b[i] = byte(i)
	}
	return string(b)
}

// codes are small ones, each with its bytes as they were worked out by hand.
func codes() []told {
	const five = "00 00 00 00 00 "
	one := func(c api.Co) api.Code { return api.Code{Cos: []api.Co{c}} }
	return []told{
		{"00 00 00 00 00 00 00", api.Code{}},
		{"02 00 00 00 00 00 00", api.Code{Merge: true}},
		{"00 02 00 00 00 00 00", api.Code{Main: 1}},
		{"00 01 00 00 00 00 00", api.Code{Main: -1}},
		{"00 03 00 00 00 00 00", api.Code{Main: -2}},
		{"00 7e 00 00 00 00 00", api.Code{Main: 63}},
		{"00 80 01 00 00 00 00 00", api.Code{Main: 64}},
		{"00 7f 00 00 00 00 00", api.Code{Main: -64}},
		{"00 81 01 00 00 00 00 00", api.Code{Main: -65}},
		{"02 80 80 01 00 00 00 00 00", api.Code{Main: 1 << 13, Merge: true}},
		{"00 fe ff ff ff ff ff ff ff ff 01 00 00 00 00 00", api.Code{Main: math.MaxInt}},
		{"00 ff ff ff ff ff ff ff ff ff 01 00 00 00 00 00", api.Code{Main: math.MinInt}},

		{"00 00 02 00 00 00 00 00", api.Code{Ints: []int{0}}},
		{"00 00 04 09 09 00 00 00 00", api.Code{Ints: []int{-5, -5}}},
		{"00 00 0c 02 01 7e 80 01 7f 81 01 00 00 00 00", api.Code{Ints: []int{1, -1, 63, 64, -64, -65}}},
		{"00 00 04 fe ff ff ff ff ff ff ff ff 01 ff ff ff ff ff ff ff ff ff 01 00 00 00 00", api.Code{Ints: []int{math.MaxInt, math.MinInt}}},
		{"00 00 04 fe ff ff ff ff ff ff ff 7f 80 80 80 80 80 80 80 80 80 01 00 00 00 00", api.Code{Ints: []int{1<<62 - 1, 1 << 62}}},
		{"00 00 80 01 " + strings.Repeat("00 ", 64) + "00 00 00 00", api.Code{Ints: make([]int, 64)}},

		{"00 00 00 02 00 00 00 00", api.Code{Strs: []string{""}}},
		{"00 00 00 02 02 00 00 00 00", api.Code{Strs: []string{"\x00"}}},
		{"00 00 00 06 04 61 62 00 02 ff 00 00 00", api.Code{Strs: []string{"ab", "", "\xff"}}},
		{"00 00 00 04 02 80 80 01 " + strings.Repeat("78 ", 64) + "00 00 00", api.Code{Strs: []string{"\x80", strings.Repeat("x", 64)}}},

		{"00 00 00 00 02 00 00 00", api.Code{Shapes: [][]string{nil}}},
		{"00 00 00 00 06 00 00 00 00 00", api.Code{Shapes: [][]string{{}, nil, {}}}},
		{"00 00 00 00 02 02 00 00 00", api.Code{Shapes: [][]string{{""}}}},
		{"00 00 00 00 08 00 02 02 61 04 02 62 04 61 62 02 02 61 00 00", api.Code{Shapes: [][]string{nil, {"a"}, {"b", "ab"}, {"a"}}}},

		{"00 00 00 00 00 02 " + five + "00", one(api.Co{})},
		{"00 00 00 00 00 06 " + five + five + five + "00", api.Code{Cos: make([]api.Co, 3)}},
		{"00 00 00 00 00 02 0c 00 04 03 00 00 80 01 00 00 00 00 00", one(api.Co{Tags: []int{0, 2, -2, 0, 0, 64}})},
		{"00 00 00 00 00 02 00 02 02 78 04 00 00 00 00", one(api.Co{Needs: []api.Need{{Name: "x", Label: 2}}})},
		{"00 00 00 00 00 02 00 04 00 01 04 61 61 00 00 00 00 00", one(api.Co{Needs: []api.Need{{Label: -1}, {Name: "aa"}}})},
		{"00 00 00 00 00 02 00 00 04 02 61 00 00 00 00", one(api.Co{Names: []string{"a", ""}})},
		{"00 00 00 00 00 02 00 00 00 02 " + five + "00 00", one(api.Co{Fields: []api.Co{{}}})},
		{"00 00 00 00 00 02 00 00 00 00 04 02 02 00 00 00 00 " + five + "00", one(api.Co{Fun: []api.Co{{Tags: []int{1}}, {}}})},
		{"00 00 00 00 00 02 02 04 02 02 61 06 02 02 62 02 02 08 00 00 00 00 02 00 00 00 00 02 " + five + "00",
			one(api.Co{Tags: []int{2}, Needs: []api.Need{{Name: "a", Label: 3}}, Names: []string{"b"}, Fields: []api.Co{{Tags: []int{4}}}, Fun: []api.Co{{Fun: []api.Co{{}}}}})},

		{"00 00 00 00 00 00 02 00 00 00", api.Code{Procs: []api.Proc{{}}}},
		{"00 00 00 00 00 00 04 02 04 00 01 80 01 00", api.Code{Procs: []api.Proc{{Caps: 1, Regs: 2}, {Caps: -1, Regs: 64}}}},
		{"00 00 00 00 00 00 02 00 02 02 02 04 06 08", api.Code{Procs: []api.Proc{{Regs: 1, Code: []api.Instr{{Op: 1, A: 2, B: 3, C: 4}}}}}},
		{"00 00 00 00 00 00 04 00 00 00 06 08 04 00 01 00 00 2e 02 00 03", api.Code{Procs: []api.Proc{{}, {Caps: 3, Regs: 4, Code: []api.Instr{{A: -1}, {Op: api.IRet, A: 1, C: -2}}}}}},

		{"02 04 02 06 02 02 61 02 02 02 62 02 02 0a 00 00 00 00 02 02 0c 02 0e 10 12 14",
			api.Code{Merge: true, Main: 2, Ints: []int{3}, Strs: []string{"a"}, Shapes: [][]string{{"b"}}, Cos: []api.Co{{Tags: []int{5}}},
				Procs: []api.Proc{{Caps: 1, Regs: 6, Code: []api.Instr{{Op: 7, A: 8, B: 9, C: 10}}}}}},
	}
}

// told is a code, and what it is told to be.
type told struct {
	digits string
	code   api.Code
}

// P17.1, P17.2, P17.3: the bytes of small codes, each part by itself.
func TestSmallCodes(t *testing.T) {
	for _, k := range codes() {
		want := raw(k.digits)
		if b := Encode(k.code); !slices.Equal(b, want) {
			t.Errorf("%s: %s, not %s", show(k.code), short(b), short(want))
		}
		if !holdBytes(t, want) {
			t.Errorf("%s is no code", short(want))
		}
		holdCode(t, k.code)
	}
}

// P17.1, P17.2: the chapter's example.
func TestExample(t *testing.T) {
	seven := make([]byte, 7)
	if b := Encode(api.Code{}); !slices.Equal(b, seven) {
		t.Error(b)
	}
	if !holdBytes(t, seven) {
		t.Error("no code")
	}
	holdWrong(t, seven[:6])
}

// P17.1, P17.2: a text of all bytes, as a string, a name in a shape, of a need and of a field.
func TestAllBytes(t *testing.T) {
	s := allBytes()
	for at, c := range []api.Code{
		{Strs: []string{s}}, {Shapes: [][]string{{s}}},
		{Cos: []api.Co{{Needs: []api.Need{{Name: s}}}}}, {Cos: []api.Co{{Names: []string{s}}}},
	} {
		b := holdCode(t, c)
		ahead := []int{6, 8, 10, 11}[at] // the text, behind its two bytes
		if string(b[ahead-2:ahead+256]) != "\x80\x04"+s {
			t.Errorf("%s: %s", show(c), short(b))
		}
	}
}

// R6, P17.1: lists are alike, whether they are nil or empty.
func TestNilAndEmpty(t *testing.T) {
	lists := api.Code{Ints: []int{}, Strs: []string{}, Shapes: [][]string{}, Cos: []api.Co{}, Procs: []api.Proc{}}
	if !slices.Equal(holdCode(t, lists), make([]byte, 7)) {
		t.Error("empty lists")
	}
	empty := api.Co{Tags: []int{}, Needs: []api.Need{}, Names: []string{}, Fields: []api.Co{}, Fun: []api.Co{}}
	within := api.Code{Shapes: [][]string{{}, nil}, Cos: []api.Co{empty, {}}, Procs: []api.Proc{{Code: []api.Instr{}}, {}}}
	plain := api.Code{Shapes: [][]string{nil, {}}, Cos: []api.Co{{}, empty}, Procs: []api.Proc{{}, {Code: []api.Instr{}}}}
	if !slices.Equal(holdCode(t, within), holdCode(t, plain)) {
		t.Error("lists within")
	}
}

// P17.1 to P17.3: codes of many parts.
func TestManyParts(t *testing.T) {
	for _, many := range []int{63, 64, 65, 1000, 8191, 8192} {
		var c api.Code
		for i := range many {
			name := strings.Repeat(string(rune('a'+i%26)), i%7)
			c.Ints = append(c.Ints, (i-many/2)<<(i%50))
			c.Strs = append(c.Strs, name)
			c.Shapes = append(c.Shapes, slices.Repeat([]string{name}, i%3))
			c.Cos = append(c.Cos, api.Co{Tags: make([]int, i%7), Names: []string{name}, Fun: make([]api.Co, i%3)})
			c.Procs = append(c.Procs, api.Proc{Caps: i, Regs: i, Code: make([]api.Instr, i%4)})
		}
		holdCode(t, api.Code{Ints: c.Ints})
		holdCode(t, api.Code{Strs: c.Strs})
		holdCode(t, api.Code{Shapes: c.Shapes, Merge: true})
		holdCode(t, api.Code{Cos: c.Cos, Main: many})
		holdCode(t, api.Code{Procs: c.Procs, Main: -many})
		holdCode(t, api.Code{Cos: []api.Co{{Fields: c.Cos, Fun: c.Cos}}})
		holdCode(t, api.Code{Procs: []api.Proc{{Code: make([]api.Instr, many)}}})
		holdCode(t, c)
	}
}

// P17.2: more than 2^20 bytes are too long, whatever they are; as many are read.
func TestLong(t *testing.T) {
	for _, head := range []string{"", "01", "02", "80"} {
		b := append(raw(head), make([]byte, 1<<20+1-len(head)/2)...)
		c, e := Decode(b)
		holdNone(t, b, c, e, api.ErrLong)
		holdWrong(t, b[:1<<20])
	}
	// Ten bytes beside those of the one string, whose number has three of them.
	const most = 1<<20 - 10
	for _, s := range []string{strings.Repeat("x", most), strings.Repeat("\xff", most), strings.Repeat("x", most-1)} {
		if b := holdCode(t, api.Code{Strs: []string{s}}); len(b) != len(s)+10 {
			t.Error(len(b))
		}
	}
	c := api.Code{Strs: []string{strings.Repeat("x", most+1)}}
	if b := holdCode(t, c); len(b) != 1<<20+1 {
		t.Error(len(b))
	}
	// Nine bytes beside those of the numbers.
	for _, over := range []int{0, 1} {
		if b := holdCode(t, api.Code{Ints: make([]int, 1<<20-9+over)}); len(b) != 1<<20+over {
			t.Error(len(b))
		}
	}
	holdCode(t, api.Code{Shapes: make([][]string, 1<<20-9)})
	holdCode(t, api.Code{Cos: make([]api.Co, (1<<20-9)/5)})
	holdCode(t, api.Code{Cos: make([]api.Co, 1<<20/5+1)})
	holdCode(t, api.Code{Procs: make([]api.Proc, (1<<20-9)/3)})
	holdCode(t, api.Code{Procs: make([]api.Proc, 1<<20/3+1)})
}

// nested are so many coercions within one another; in tells where the next one stands: by Fields (f), or by Fun (r).
func nested(many int, in string) api.Co {
	c := api.Co{Tags: []int{many}}
	for i := many - 2; i >= 0; i-- {
		inner := []api.Co{c}
		c = api.Co{Tags: []int{i}}
		if in[i%len(in)] == 'f' {
			c.Fields, c.Names = inner, []string{"a"}
		} else {
			c.Fun = inner
		}
	}
	return c
}

// P17.2: 40 coercions may stand within one another, 41 may not.
func TestDeep(t *testing.T) {
	for _, in := range []string{"f", "r", "fr", "rf", "ffr", strings.Repeat("f", 39) + "r", strings.Repeat("r", 39) + "f"} {
		for many := 1; many <= 45; many++ {
			c := nested(many, in)
			for _, l := range [][]api.Co{{c}, {{}, c}, {c, {}}, {{Fields: make([]api.Co, 50)}, c, c}} {
				b := holdCode(t, api.Code{Cos: l})
				if holdBytes(t, b) != (many <= 40) {
					t.Errorf("%d by %s: %s", many, in, short(b))
				}
			}
		}
		// Those that stand beside one another don't count.
		c := nested(39, in)
		for range 3 {
			c = api.Co{Fields: []api.Co{nested(39, in), nested(1, in), nested(39, in)}, Fun: []api.Co{nested(39, in), nested(2, in)}}
			if !holdBytes(t, holdCode(t, api.Code{Cos: []api.Co{c, c}})) {
				t.Error(in)
			}
			c.Fun[1].Fields = []api.Co{nested(39, in)}
			if holdBytes(t, holdCode(t, api.Code{Cos: []api.Co{{}, c}})) {
				t.Error(in)
			}
		}
	}
}
