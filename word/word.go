// Package word is layer 1: numbers of 32 and 64 bits, as instructions reckon with them.
package word

import (
	"cmp"

	"samovar/api"
)

// The instructions on ints. That on longs is one greater each.
const (
	opAdd      = 96
	opTake     = 100
	opTimes    = 104
	opDivide   = 108
	opRest     = 112
	opNegate   = 116
	opUp       = 120
	opDown     = 122
	opDownBare = 124
	opBoth     = 126
	opOne      = 128
	opJustOne  = 130
)

// The jumps that hold an int against 0 stand in the same order as those that hold two against each other.
const (
	opFirstAlone = 153
	opLastAlone  = 158
	opEqual      = 159
	opOther      = 160
	opBelow      = 161
	opNotBelow   = 162
	opAbove      = 163
	opNotAbove   = 164
)

// width are the two widths of numbers.
type width interface{ int32 | int64 }

// Int is the answer of an instruction on ints.
func Int(op int, a, b int64) (int64, api.Errno) {
	v, e := reckon(op, int32(a), int32(b), 32)
	return int64(v), e
}

// Long is the answer of an instruction on longs.
func Long(op int, a, b int64) (int64, api.Errno) {
	return reckon(op-1, a, b, 64)
}

// reckon is the answer of an instruction, told by its number for ints, on numbers of size bits.
func reckon[T width](op int, a, b T, size uint) (T, api.Errno) {
	switch op {
	case opAdd:
		return a + b, api.OK
	case opTake:
		return a - b, api.OK
	case opTimes:
		return a * b, api.OK
	case opDivide, opRest:
		return divide(op, a, b)
	case opNegate:
		return -a, api.OK
	case opUp, opDown, opDownBare:
		// The size is a power of two, so size-1 keeps just the bits of a count that stays below it.
		return shift(op, a, uint(b)&(size-1), size), api.OK
	case opBoth:
		return a & b, api.OK
	case opOne:
		return a | b, api.OK
	case opJustOne:
		return a ^ b, api.OK
	}
	return 0, api.ErrArg
}

// divide is how often b is in a, or what it leaves.
func divide[T width](op int, a, b T) (T, api.Errno) {
	if b == 0 {
		return 0, api.ErrZero
	}
	if op == opRest {
		return a % b, api.OK
	}
	return a / b, api.OK
}

// shift is a shifted by a count below size.
func shift[T width](op int, a T, by, size uint) T {
	if op == opUp {
		return a << by
	}
	down := a >> by
	if op == opDownBare {
		// The copies of the sign that were drawn in are wiped; by a count of 0 none were, and this mask is 0.
		down &^= T(-1) << (size - by)
	}
	return down
}

// Cut is a number as a value of a type.
func Cut(desc byte, n int64) int64 {
	switch desc {
	case 'B':
		return int64(int8(n))
	case 'C':
		return int64(uint16(n))
	case 'S':
		return int64(int16(n))
	case 'Z':
		return n & 1
	case 'I':
		return int64(int32(n))
	}
	return n
}

// Compare tells the order of two numbers.
func Compare(a, b int64) int64 {
	return int64(cmp.Compare(a, b))
}

// Holds asks whether a jump's condition holds.
func Holds(op int, a, b int64) (bool, api.Errno) {
	x, y := int32(a), int32(b)
	if op >= opFirstAlone && op <= opLastAlone {
		op += opEqual - opFirstAlone
		y = 0
	}
	switch op {
	case opEqual:
		return x == y, api.OK
	case opOther:
		return x != y, api.OK
	case opBelow:
		return x < y, api.OK
	case opNotBelow:
		return x >= y, api.OK
	case opAbove:
		return x > y, api.OK
	case opNotAbove:
		return x <= y, api.OK
	}
	return false, api.ErrArg
}
