package bytes

import (
	"math"
	"slices"
	"testing"

	"gradus/api"
)

// chance is numbers that come one after the other, the same ones each time.
type chance uint64

func (c *chance) below(n int) int {
	*c ^= *c << 13
	*c ^= *c >> 7
	*c ^= *c << 17
	return int(uint64(*c) >> 1 % uint64(n))
}

func (c *chance) number() int {
	switch c.below(6) {
	case 0:
		return c.below(130) - 65
	case 1:
		edge := 1 << c.below(63)
		return []int{edge, edge - 1, -edge, -edge - 1}[c.below(4)]
	case 2:
		return []int{math.MaxInt, math.MinInt, math.MaxInt - 1, math.MinInt + 1}[c.below(4)]
	}
	return c.below(4)
}

func (c *chance) text() string {
	b := make([]byte, c.below(4))
	if c.below(30) == 0 {
		b = make([]byte, 60+c.below(10))
	}
	for i := range b {
		b[i] = byte(c.below(256))
	}
	return string(b)
}

func (c *chance) texts() []string {
	return some(c, 3, c.text)
}

// some is a list of fewer than so many, now and then of many more.
func some[T any](c *chance, n int, one func() T) []T {
	many := c.below(n)
	if c.below(60) == 0 {
		many = 62 + c.below(5)
	}
	l := make([]T, 0, many)
	for range many {
		l = append(l, one())
	}
	return l
}

// co has fewer than so many within one another.
func (c *chance) co(deep int) api.Co {
	if deep <= 0 || c.below(8) == 0 {
		return api.Co{}
	}
	k := api.Co{Names: c.texts()}
	k.Tags = some(c, 8, c.number)
	k.Needs = some(c, 3, func() api.Need { return api.Need{Name: c.text(), Label: c.number()} })
	for i := range c.below(3) {
		k.Fields = append(k.Fields, c.co(deep-1-3*i))
	}
	for i := range c.below(3) {
		k.Fun = append(k.Fun, c.co(deep-1-3*i))
	}
	return k
}

func (c *chance) instr() api.Instr {
	return api.Instr{Op: c.number(), A: c.number(), B: c.number(), C: c.number()}
}

func (c *chance) code() api.Code {
	k := api.Code{Merge: c.below(2) == 0, Main: c.number()}
	k.Ints = some(c, 4, c.number)
	k.Strs = c.texts()
	k.Shapes = some(c, 4, c.texts)
	k.Procs = some(c, 3, func() api.Proc {
		return api.Proc{Caps: c.number(), Regs: c.number(), Code: some(c, 4, c.instr)}
	})
	for range c.below(3) {
		k.Cos = append(k.Cos, c.co(c.below(5)))
	}
	if c.below(20) == 0 {
		// A long chain, of about as many as there may be.
		deep := 36 + c.below(8)
		k.Cos = append(k.Cos, nested(deep, []string{"f", "r", "fr"}[c.below(3)]))
	}
	return k
}

// P17.1 to P17.3: any codes, and their bytes.
func TestAnyCodes(t *testing.T) {
	c := chance(88172645463325252)
	deep, flat := 0, 0
	for range 6000 {
		k := c.code()
		if holdBytes(t, holdCode(t, k)) {
			flat++
		} else {
			deep++
		}
	}
	if deep < 50 || flat < 5000 {
		t.Error(deep, flat)
	}
}

// P17.2, P17.3: the bytes of any codes, spoilt in one place or in some.
func TestSpoiltCodes(t *testing.T) {
	c := chance(1442695040888963407)
	right, wrong := 0, 0
	for range 6000 {
		b := Encode(c.code())
		for range 8 {
			spoilt := slices.Clone(b)
			for range 1 + c.below(2) {
				spoilt = c.spoil(spoilt)
			}
			if holdBytes(t, spoilt) {
				right++
			} else {
				wrong++
			}
		}
	}
	if right < 1000 || wrong < 1000 {
		t.Error(right, wrong)
	}
}

func (c *chance) spoil(b []byte) []byte {
	at := c.below(len(b) + 1)
	to := at + c.below(min(len(b)-at, 6)+1)
	switch c.below(6) {
	case 0:
		return slices.Insert(b, at, byte(c.below(256)))
	case 1:
		return slices.Delete(b, at, to)
	case 2:
		return slices.Insert(b, at, slices.Clone(b[at:to])...)
	case 3:
		return slices.Insert(b, at, number(c.number())...)
	}
	if at == len(b) {
		return append(b, 0)
	}
	b[at] = []byte{byte(c.below(256)), b[at] + 1, b[at] - 1, b[at] ^ 128}[c.below(4)]
	return b
}

// P17.2, P17.3: all short bytes of a few sorts.
func TestShortBytes(t *testing.T) {
	met := 0
	for _, k := range []struct {
		sorts string
		most  int
	}{
		{"\x00\x02", 15}, {"\x00\x02\x04", 10}, {"\x00\x01\x02\x80", 8}, {"\x00\x02\x06\x80\x81\xff", 7},
	} {
		var b []byte
		var each func()
		each = func() {
			if holdBytes(t, b) {
				met++
			}
			if len(b) == k.most {
				return
			}
			for i := range len(k.sorts) {
				b = append(b, k.sorts[i])
				each()
				b = b[:len(b)-1]
			}
		}
		each()
	}
	if met < 1000 {
		t.Error(met)
	}
}

// P17.2: all bytes that are no more than two, and each byte in each place of seven noughts, and behind them.
func TestEachByte(t *testing.T) {
	holdWrong(t, nil)
	holdWrong(t, []byte{})
	for x := range 256 {
		holdWrong(t, []byte{byte(x)})
		for y := range 256 {
			holdWrong(t, []byte{byte(x), byte(y)})
		}
		for at := range 8 {
			b := make([]byte, max(7, at+1))
			b[at] = byte(x)
			right := holdBytes(t, b)
			if want := at < 2 && x < 128 && (at == 1 || x == 0 || x == 2) || x == 0 && at < 7; right != want {
				t.Errorf("%s: %v", short(b), right)
			}
		}
	}
}

// P17.2: any bytes.
func TestAnyBytes(t *testing.T) {
	c := chance(2685821657736338717)
	for range 20000 {
		b := make([]byte, c.below(40))
		for i := range b {
			b[i] = byte(c.below(256))
			if c.below(3) > 0 {
				b[i] = byte(c.below(5))
			}
		}
		holdBytes(t, b)
	}
}
