package bytes

import (
	"encoding/hex"
	"fmt"
	"reflect"
	"slices"
	"strings"
	"testing"

	"gradus/api"
)

// piece is some of a code's bytes: a number, or a text without its number. Of a list's or a text's number, how many there
// are is told.
type piece struct {
	bytes  []byte
	number bool
	list   bool
}

// number is its form by chapter 1.
func number(n int) []byte {
	v := 2 * uint64(n)
	if n < 0 {
		v = 2*uint64(-(n+1)) + 1
	}
	var out []byte
	for ; v >= 128; v /= 128 {
		out = append(out, byte(v%128)+128)
	}
	return append(out, byte(v))
}

// pieces is a second, plain reading of the chapter: the pieces of a code's bytes.
func pieces(c api.Code) []piece {
	first := 0
	if c.Merge {
		first = 1
	}
	return slices.Concat(num(first), num(c.Main), all(c.Ints, num), all(c.Strs, text), all(c.Shapes, texts), all(c.Cos, coPieces),
		all(c.Procs, func(p api.Proc) []piece {
			return slices.Concat(num(p.Caps), num(p.Regs), all(p.Code, func(i api.Instr) []piece {
				return slices.Concat(num(i.Op), num(i.A), num(i.B), num(i.C))
			}))
		}))
}

func coPieces(c api.Co) []piece {
	return slices.Concat(all(c.Tags, num), all(c.Needs, func(n api.Need) []piece {
		return slices.Concat(text(n.Name), num(n.Label))
	}), all(c.Names, text), all(c.Fields, coPieces), all(c.Fun, coPieces))
}

func num(n int) []piece {
	return []piece{{number(n), true, false}}
}

func text(s string) []piece {
	return []piece{{number(len(s)), true, true}, {[]byte(s), false, false}}
}

func texts(l []string) []piece {
	return all(l, text)
}

func all[T any](l []T, one func(T) []piece) []piece {
	out := []piece{{number(len(l)), true, true}}
	for _, x := range l {
		out = append(out, one(x)...)
	}
	return out
}

func join(l []piece) []byte {
	var out []byte
	for _, p := range l {
		out = append(out, p.bytes...)
	}
	return out
}

// takeNumber is a number, and what is behind it.
func takeNumber(b []byte) (int, []byte, bool) {
	long := slices.IndexFunc(b, func(x byte) bool { return x < 128 }) + 1
	if long == 0 || long > 10 || long == 10 && b[9] > 1 {
		return 0, nil, false
	}
	v := uint64(0)
	for i := long - 1; i >= 0; i-- {
		v = 128*v + uint64(b[i]%128)
	}
	n := int(v / 2)
	if v%2 == 1 {
		n = -n - 1
	}
	// As few bytes as can be.
	return n, b[long:], slices.Equal(number(n), b[:long])
}

func takeList[T any](b []byte, one func([]byte) (T, []byte, bool)) ([]T, []byte, bool) {
	n, b, ok := takeNumber(b)
	if !ok || n < 0 || n > len(b) {
		return nil, nil, false
	}
	var out []T
	for len(out) < n {
		var x T
		if x, b, ok = one(b); !ok {
			return nil, nil, false
		}
		out = append(out, x)
	}
	return out, b, true
}

func takeText(b []byte) (string, []byte, bool) {
	l, b, ok := takeList(b, func(b []byte) (byte, []byte, bool) {
		if len(b) == 0 {
			return 0, nil, false
		}
		return b[0], b[1:], true
	})
	return string(l), b, ok
}

func takeTexts(b []byte) ([]string, []byte, bool) {
	return takeList(b, takeText)
}

func takeNeed(b []byte) (n api.Need, rest []byte, ok bool) {
	if n.Name, b, ok = takeText(b); ok {
		n.Label, b, ok = takeNumber(b)
	}
	return n, b, ok
}

// takeCo takes one of so many around it.
func takeCo(around int) func([]byte) (api.Co, []byte, bool) {
	return func(b []byte) (c api.Co, rest []byte, ok bool) {
		if around+1 > 40 {
			return c, nil, false
		}
		if c.Tags, b, ok = takeList(b, takeNumber); !ok {
			return c, nil, false
		}
		if c.Needs, b, ok = takeList(b, takeNeed); !ok {
			return c, nil, false
		}
		if c.Names, b, ok = takeTexts(b); !ok {
			return c, nil, false
		}
		if c.Fields, b, ok = takeList(b, takeCo(around+1)); !ok {
			return c, nil, false
		}
		c.Fun, b, ok = takeList(b, takeCo(around+1))
		return c, b, ok
	}
}

func takeNumbers(b []byte, into ...*int) (rest []byte, ok bool) {
	for _, n := range into {
		if *n, b, ok = takeNumber(b); !ok {
			return nil, false
		}
	}
	return b, true
}

func takeInstr(b []byte) (i api.Instr, rest []byte, ok bool) {
	rest, ok = takeNumbers(b, &i.Op, &i.A, &i.B, &i.C)
	return i, rest, ok
}

func takeProc(b []byte) (p api.Proc, rest []byte, ok bool) {
	if rest, ok = takeNumbers(b, &p.Caps, &p.Regs); !ok {
		return p, nil, false
	}
	p.Code, rest, ok = takeList(rest, takeInstr)
	return p, rest, ok
}

// takeCode is a second, plain reading of the chapter, the other way round.
func takeCode(b []byte) (c api.Code, ok bool) {
	var first int
	if b, ok = takeNumbers(b, &first, &c.Main); !ok || first < 0 || first > 1 {
		return c, false
	}
	c.Merge = first == 1
	if c.Ints, b, ok = takeList(b, takeNumber); !ok {
		return c, false
	}
	if c.Strs, b, ok = takeTexts(b); !ok {
		return c, false
	}
	if c.Shapes, b, ok = takeList(b, takeTexts); !ok {
		return c, false
	}
	if c.Cos, b, ok = takeList(b, takeCo(0)); !ok {
		return c, false
	}
	if c.Procs, b, ok = takeList(b, takeProc); !ok {
		return c, false
	}
	return c, len(b) == 0
}

// bare is a code of its own with nil in the place of each list without elements.
func bare(c api.Code) api.Code {
	c.Ints = each(c.Ints, func(n int) int { return n })
	c.Strs = bareTexts(c.Strs)
	c.Shapes = each(c.Shapes, bareTexts)
	c.Cos = each(c.Cos, bareCo)
	c.Procs = each(c.Procs, func(p api.Proc) api.Proc {
		p.Code = each(p.Code, func(i api.Instr) api.Instr { return i })
		return p
	})
	return c
}

func bareTexts(l []string) []string {
	return each(l, func(s string) string { return strings.Clone(s) })
}

func bareCo(c api.Co) api.Co {
	c.Tags = each(c.Tags, func(n int) int { return n })
	c.Needs = each(c.Needs, func(n api.Need) api.Need { return n })
	c.Names = bareTexts(c.Names)
	c.Fields = each(c.Fields, bareCo)
	c.Fun = each(c.Fun, bareCo)
	return c
}

func each[T any](l []T, one func(T) T) []T {
	var out []T
	for _, x := range l {
		out = append(out, one(x))
	}
	return out
}

// high is how many coercions stand within one another.
func high(l []api.Co) int {
	most := 0
	for _, c := range l {
		most = max(most, high(c.Fields)+1, high(c.Fun)+1)
	}
	return most
}

// short is bytes as text, without the most of them.
func short(b []byte) string {
	if len(b) > 60 {
		return hex.EncodeToString(b[:60]) + ".."
	}
	return hex.EncodeToString(b)
}

// show is a code as text, without the most of it.
func show(c api.Code) string {
	s := fmt.Sprintf("%#v", c)
	return s[:min(len(s), 600)]
}

// holdCode holds a code's bytes against the second reading, and the way back. It hands on the bytes.
func holdCode(t *testing.T, c api.Code) []byte {
	t.Helper()
	before, want := bare(c), join(pieces(c))
	b := Encode(c)
	if !slices.Equal(b, want) {
		t.Fatalf("%s: %s, not %s", show(before), short(b), short(want))
	}
	if !reflect.DeepEqual(bare(c), before) {
		t.Fatalf("%s has become %s", show(before), show(c))
	}
	got, e := Decode(b)
	switch {
	case len(b) > 1<<20:
		holdNone(t, b, got, e, api.ErrLong)
	case high(c.Cos) > 40:
		holdNone(t, b, got, e, api.ErrForm)
	case e != api.OK || !reflect.DeepEqual(bare(got), before):
		t.Fatalf("%s: %s %d, not %s", short(b), show(got), e, show(before))
	}
	return b
}

// holdNone holds that there is nothing beside an error.
func holdNone(t *testing.T, b []byte, c api.Code, e, want api.Errno) {
	t.Helper()
	if e != want || !reflect.DeepEqual(c, api.Code{}) {
		t.Fatalf("%s: %s %d, not the error %d", short(b), show(c), e, want)
	}
}

// holdWrong holds that bytes are no code, by the second reading too.
func holdWrong(t *testing.T, b []byte) {
	t.Helper()
	if c, ok := takeCode(b); ok {
		t.Fatalf("%s is %s by the second reading", short(b), show(c))
	}
	c, e := Decode(b)
	holdNone(t, b, c, e, api.ErrForm)
}

// holdBytes holds any bytes against the second reading, and the way back. It tells whether they are a code.
func holdBytes(t *testing.T, b []byte) bool {
	t.Helper()
	before := slices.Clone(b)
	want, ok := takeCode(b)
	c, e := Decode(b)
	if !slices.Equal(b, before) {
		t.Fatalf("%s has become %s", short(before), short(b))
	}
	if !ok {
		holdNone(t, b, c, e, api.ErrForm)
		return false
	}
	if e != api.OK || !reflect.DeepEqual(bare(c), bare(want)) {
		t.Fatalf("%s: %s %d, not %s", short(b), show(c), e, show(want))
	}
	if back := Encode(c); !slices.Equal(back, b) {
		t.Fatalf("%s: back as %s", short(b), short(back))
	}
	return true
}

// raw is bytes that are written as digits, with blanks between.
func raw(digits string) []byte {
	b, err := hex.DecodeString(strings.ReplaceAll(digits, " ", ""))
	if err != nil {
		panic(err)
	}
	return b
}
