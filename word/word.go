// Package word is layer 1: see shared/doc/01-word.md.
package word

import (
	"math"
	"strconv"

	"gradus/api"
)

const (
	wordBits  = 64
	groupBits = 7
	more      = 1 << groupBits // stands in each group but the last
	maxGroups = 10             // 64 bits fill nine groups, and one bit of a tenth
	maxTenth  = 1
)

// Bin is what an operation makes of two numbers.
func Bin(op, a, b int) (int, api.Errno) {
	switch op {
	case api.OpAdd:
		return a + b, api.OK
	case api.OpSub:
		return a - b, api.OK
	case api.OpMul:
		return a * b, api.OK
	case api.OpDiv, api.OpMod:
		return divide(op, a, b)
	case api.OpShl:
		return shiftLeft(a, shiftCount(b)), api.OK
	case api.OpShr:
		return shiftRight(a, shiftCount(b)), api.OK
	case api.OpAnd:
		return a & b, api.OK
	case api.OpXor:
		return a ^ b, api.OK
	case api.OpLt:
		return truth(a < b), api.OK
	case api.OpLe:
		return truth(a <= b), api.OK
	}
	return 0, api.ErrArg
}

func divide(op, a, b int) (int, api.Errno) {
	if b == 0 {
		return 0, api.ErrZero
	}
	if op == api.OpDiv {
		return a / b, api.OK
	}
	return a % b, api.OK
}

func truth(holds bool) int {
	if holds {
		return 1
	}
	return 0
}

func shiftCount(b int) uint64 {
	return uint64(b) % wordBits
}

func shiftLeft(a int, count uint64) int {
	return int(uint64(a) << count)
}

// shiftRight turns the bits of a number below 0 round and back, since a shift without a sign fills up with noughts.
func shiftRight(a int, count uint64) int {
	if a < 0 {
		return ^int(uint64(^a) >> count)
	}
	return int(uint64(a) >> count)
}

// Show is a number as text, Parse the number of a text.
func Show(n int) string {
	return strconv.Itoa(n)
}

func Parse(s string) (int, bool) {
	if s == "" || s[0] == '0' && len(s) > 1 {
		return 0, false
	}
	n := 0
	for i := range len(s) {
		if s[i] < '0' || s[i] > '9' {
			return 0, false
		}
		digit := int(s[i] - '0')
		if n > (math.MaxInt-digit)/10 {
			return 0, false
		}
		n = n*10 + digit
	}
	return n, true
}

// Fit is what of a number fits into so many bits.
func Fit(n, bits int) int {
	if bits < 1 || bits > wordBits {
		return 0
	}
	// The highest of the bits comes to stand where the sign does, so that the way back spreads it.
	rest := uint64(wordBits - bits)
	return shiftRight(shiftLeft(n, rest), rest)
}

// Put appends a number in groups of seven bits, Get reads one.
func Put(b []byte, n int) []byte {
	// The caller's own memory may have room behind b, which an append would fill.
	out := make([]byte, len(b), len(b)+maxGroups)
	copy(out, b)
	rest := fold(n)
	for range maxGroups {
		if rest < more {
			break
		}
		out = append(out, byte(rest%more)+more)
		rest >>= groupBits
	}
	return append(out, byte(rest))
}

func Get(b []byte) (int, int) {
	folded := uint64(0)
	for i := range min(len(b), maxGroups) {
		if i == maxGroups-1 && b[i] > maxTenth {
			return 0, 0
		}
		folded |= uint64(b[i]%more) << (groupBits * uint64(i))
		if b[i] >= more {
			continue
		}
		if b[i] == 0 && i > 0 {
			return 0, 0
		}
		return unfold(folded), i + 1
	}
	return 0, 0
}

// fold gives numbers near 0 few bits, whatever their sign.
func fold(n int) uint64 {
	if n < 0 {
		return ^(uint64(n) << 1)
	}
	return uint64(n) << 1
}

func unfold(folded uint64) int {
	half := int(folded >> 1)
	if folded%2 == 1 {
		return ^half
	}
	return half
}
