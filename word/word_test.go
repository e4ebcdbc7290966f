package word

import (
	"math"
	"math/big"
	"testing"

	"samovar/api"
)

const (
	leastInt  = math.MinInt32
	mostInt   = math.MaxInt32
	leastLong = math.MinInt64
	mostLong  = math.MaxInt64
)

// edges are numbers at and beyond the ends of all the types, and some between.
var edges = []int64{
	0, 1, -1, 2, -2, 3, 5, 7, -7, 8, -8, 10, 28, 31, 32, 33, 63, 64, 65, 100, -31, -32, -33, -63, -64, -65,
	127, 128, -128, -129, 200, 255, 256, 32767, 32768, -32768, -32769, 65535, 65536, 46341, -46341,
	mostInt, mostInt - 1, mostInt + 1, leastInt, leastInt + 1, leastInt - 1,
	1<<32 - 1, 1 << 32, 1<<32 + 1, 1<<32 + 5, -1 << 32, -1<<32 + 7, 1<<33 + 1, 3037000500, -3037000500,
	0x123456789abcdef, -0x123456789abcdef, 0x5555555555555555, mostLong, mostLong - 1, leastLong, leastLong + 1,
}

// intOps are the instructions that Int knows; each of Long's is one greater.
var intOps = []int{96, 100, 104, 108, 112, 116, 120, 122, 124, 126, 128, 130}

type reckoning struct {
	op         int
	a, b, want int64
	e          api.Errno
}

func askReckonings(t *testing.T, name string, f func(int, int64, int64) (int64, api.Errno), rows []reckoning) {
	t.Helper()
	for _, x := range rows {
		if v, e := f(x.op, x.a, x.b); v != x.want || e != x.e {
			t.Errorf("%s(%d, %d, %d) = %d, %d, not %d, %d", name, x.op, x.a, x.b, v, e, x.want, x.e)
		}
	}
}

// P1.1: Int at ordinary numbers and at the edges.
func TestInt(t *testing.T) {
	askReckonings(t, "Int", Int, []reckoning{
		{96, 2, 3, 5, api.OK},
		{96, mostInt, 1, leastInt, api.OK},
		{96, 1 << 32, 1, 1, api.OK},
		{96, 1<<31 - 1, 1 << 40, mostInt, api.OK},
		{100, 2, 3, -1, api.OK},
		{100, leastInt, 1, mostInt, api.OK},
		{104, -4, 3, -12, api.OK},
		{104, 65536, 65536, 0, api.OK},
		{104, mostInt, 2, -2, api.OK},
		{108, 7, 2, 3, api.OK},
		{108, -7, 2, -3, api.OK},
		{108, 7, -2, -3, api.OK},
		{108, leastInt, -1, leastInt, api.OK},
		{108, leastInt, 1<<32 - 1, leastInt, api.OK},
		{112, 7, 2, 1, api.OK},
		{112, -7, 2, -1, api.OK},
		{112, 7, -2, 1, api.OK},
		{112, leastInt, -1, 0, api.OK},
		{116, 5, 99, -5, api.OK},
		{116, 5, 0, -5, api.OK},
		{116, leastInt, 0, leastInt, api.OK},
		{120, 1, 31, leastInt, api.OK},
		{120, 1, 32, 1, api.OK},
		{120, 1, 33, 2, api.OK},
		{120, 1, -1, leastInt, api.OK},
		{120, 1, 1 << 40, 1, api.OK},
		{122, -8, 1, -4, api.OK},
		{122, -8, 33, -4, api.OK},
		{122, leastInt, 31, -1, api.OK},
		{122, 1 << 31, 31, -1, api.OK},
		{122, 1 << 32, 1, 0, api.OK},
		{124, -1, 28, 15, api.OK},
		{124, -1, 0, -1, api.OK},
		{124, -1, 32, -1, api.OK},
		{124, -8, 1, 2147483644, api.OK},
		{124, leastInt, 31, 1, api.OK},
		{124, 64, 3, 8, api.OK},
		{126, 12, 10, 8, api.OK},
		{126, -1, 1 << 35, 0, api.OK},
		{128, 12, 10, 14, api.OK},
		{128, 1 << 31, 0, leastInt, api.OK},
		{130, 12, 10, 6, api.OK},
		{130, -1, 0, -1, api.OK},
	})
}

// P1.1: Long at ordinary numbers and at the edges.
func TestLong(t *testing.T) {
	askReckonings(t, "Long", Long, []reckoning{
		{97, 2, 3, 5, api.OK},
		{97, mostLong, 1, leastLong, api.OK},
		{97, mostInt, 1, mostInt + 1, api.OK},
		{101, leastLong, 1, mostLong, api.OK},
		{105, 1 << 32, 1 << 31, leastLong, api.OK},
		{105, -4, 3, -12, api.OK},
		{109, -7, 2, -3, api.OK},
		{109, leastLong, -1, leastLong, api.OK},
		{109, 1 << 40, 1 << 32, 256, api.OK},
		{113, -7, 2, -1, api.OK},
		{113, leastLong, -1, 0, api.OK},
		{117, leastLong, 7, leastLong, api.OK},
		{117, 5, 0, -5, api.OK},
		{121, 1, 63, leastLong, api.OK},
		{121, 1, 64, 1, api.OK},
		{121, 1, 65, 2, api.OK},
		{121, 1, 33, 1 << 33, api.OK},
		{121, 1, -1, leastLong, api.OK},
		{123, -8, 1, -4, api.OK},
		{123, leastLong, 63, -1, api.OK},
		{123, -8, 65, -4, api.OK},
		{125, -1, 60, 15, api.OK},
		{125, -1, 0, -1, api.OK},
		{125, -1, 64, -1, api.OK},
		{125, -8, 1, mostLong - 3, api.OK},
		{127, 12, 10, 8, api.OK},
		{127, -1, 1 << 35, 1 << 35, api.OK},
		{129, 12, 10, 14, api.OK},
		{131, 12, 10, 6, api.OK},
	})
}

// P1.1: what is asked wrongly is refused, with 0 beside the error.
func TestRefused(t *testing.T) {
	askReckonings(t, "Int", Int, []reckoning{
		{108, 1, 0, 0, api.ErrZero},
		{112, 1, 0, 0, api.ErrZero},
		{108, 1, 1 << 32, 0, api.ErrZero},
		{112, 5, -1 << 32, 0, api.ErrZero},
		{97, 1, 1, 0, api.ErrArg},
		{109, 1, 0, 0, api.ErrArg},
	})
	askReckonings(t, "Long", Long, []reckoning{
		{109, 1, 0, 0, api.ErrZero},
		{113, 1, 0, 0, api.ErrZero},
		{109, 1, 1 << 32, 0, api.OK},
		{113, 1, 1 << 32, 1, api.OK},
		{96, 1, 1, 0, api.ErrArg},
		{108, 1, 0, 0, api.ErrArg},
	})
	ints, longs := map[int]int{}, map[int]int{}
	for _, op := range intOps {
		ints[op], longs[op+1] = 1, 1
	}
	ops := []int{math.MinInt, math.MinInt + 1, math.MaxInt, math.MaxInt - 1, 1<<32 + 96, 1<<32 + 97}
	for op := -300; op <= 600; op++ {
		ops = append(ops, op)
	}
	for _, op := range ops {
		if v, e := Int(op, 6, 3); ints[op] == 0 && (v != 0 || e != api.ErrArg) || ints[op] == 1 && e != api.OK {
			t.Errorf("Int(%d, 6, 3) = %d, %d", op, v, e)
		}
		if v, e := Long(op, 6, 3); longs[op] == 0 && (v != 0 || e != api.ErrArg) || longs[op] == 1 && e != api.OK {
			t.Errorf("Long(%d, 6, 3) = %d, %d", op, v, e)
		}
	}
}

// wrap is n's lowest bits, so many of them, as two's complement.
func wrap(n *big.Int, size uint) int64 {
	whole := new(big.Int).Lsh(big.NewInt(1), size)
	low := new(big.Int).Mod(n, whole)
	if low.Bit(int(size)-1) == 1 {
		low.Sub(low, whole)
	}
	return low.Int64()
}

// reckonBig is the answer of an instruction, by numbers without bounds.
func reckonBig(op int, a, b int64, size uint) (int64, api.Errno) {
	x := big.NewInt(wrap(big.NewInt(a), size))
	y := big.NewInt(wrap(big.NewInt(b), size))
	by := uint(new(big.Int).Mod(y, big.NewInt(int64(size))).Int64())
	if (op == 108 || op == 112) && y.Sign() == 0 {
		return 0, api.ErrZero
	}
	z := new(big.Int)
	switch op {
	case 96:
		z.Add(x, y)
	case 100:
		z.Sub(x, y)
	case 104:
		z.Mul(x, y)
	case 108:
		z.Quo(x, y)
	case 112:
		z.Sub(x, new(big.Int).Mul(new(big.Int).Quo(x, y), y))
	case 116:
		z.Neg(x)
	case 120:
		z.Lsh(x, by)
	case 122:
		z.Rsh(x, by)
	case 124:
		z.Mod(x, new(big.Int).Lsh(big.NewInt(1), size))
		z.Rsh(z, by)
	case 126:
		z.And(x, y)
	case 128:
		z.Or(x, y)
	case 130:
		z.Xor(x, y)
	default:
		return 0, api.ErrArg
	}
	return wrap(z, size), api.OK
}

// P1.1: all instructions at all pairs of edges are what numbers without bounds say.
func TestReckonedWithoutBounds(t *testing.T) {
	for _, op := range intOps {
		for _, a := range edges {
			for _, b := range edges {
				want, wantE := reckonBig(op, a, b, 32)
				if v, e := Int(op, a, b); v != want || e != wantE {
					t.Errorf("Int(%d, %d, %d) = %d, %d, not %d, %d", op, a, b, v, e, want, wantE)
				}
				want, wantE = reckonBig(op, a, b, 64)
				if v, e := Long(op+1, a, b); v != want || e != wantE {
					t.Errorf("Long(%d, %d, %d) = %d, %d, not %d, %d", op+1, a, b, v, e, want, wantE)
				}
			}
		}
	}
}

// P1.1: Cut at ordinary numbers, at the ends of each type, and at bytes that name no type that is cut.
func TestCut(t *testing.T) {
	for _, x := range []struct {
		desc    byte
		n, want int64
	}{
		{'B', 5, 5}, {'B', 127, 127}, {'B', 128, -128}, {'B', 200, -56}, {'B', 256, 0}, {'B', -129, 127},
		{'C', 5, 5}, {'C', -1, 65535}, {'C', 65535, 65535}, {'C', 65536, 0}, {'C', 32768, 32768},
		{'S', 5, 5}, {'S', 32767, 32767}, {'S', 32768, -32768}, {'S', 65535, -1}, {'S', 65536, 0}, {'S', -32769, 32767},
		{'Z', 0, 0}, {'Z', 1, 1}, {'Z', 6, 0}, {'Z', 7, 1}, {'Z', -1, 1}, {'Z', leastLong, 0},
		{'I', mostInt, mostInt}, {'I', mostInt + 1, leastInt}, {'I', 1 << 32, 0}, {'I', 1<<32 - 1, -1}, {'I', leastInt - 1, mostInt},
		{'J', mostLong, mostLong}, {'J', leastLong, leastLong}, {'L', 1 << 40, 1 << 40}, {'[', -1, -1},
		{0, 1 << 33, 1 << 33}, {'b', 200, 200}, {'z', 6, 6}, {255, leastLong, leastLong},
	} {
		if v := Cut(x.desc, x.n); v != x.want {
			t.Errorf("Cut(%q, %d) = %d, not %d", x.desc, x.n, v, x.want)
		}
	}
	for d := range 256 {
		switch d {
		case 'B', 'C', 'S', 'Z', 'I':
			continue
		}
		for _, n := range edges {
			if v := Cut(byte(d), n); v != n {
				t.Errorf("Cut(%d, %d) = %d", d, n, v)
			}
		}
	}
}

// P1.1: Compare.
func TestCompare(t *testing.T) {
	for _, x := range []struct{ a, b, want int64 }{
		{-1, 1, -1}, {1, -1, 1}, {4, 4, 0}, {0, 0, 0}, {2, 1, 1},
		{leastLong, mostLong, -1}, {mostLong, leastLong, 1}, {leastLong, leastLong, 0}, {mostLong, mostLong, 0},
		{1 << 32, 0, 1}, {0, 1 << 32, -1}, {1 << 32, 1 << 33, -1}, {leastLong, 1, -1},
	} {
		if v := Compare(x.a, x.b); v != x.want {
			t.Errorf("Compare(%d, %d) = %d, not %d", x.a, x.b, v, x.want)
		}
	}
}

// P1.1: Holds at pairs of each order, of which just the 32 bits count.
func TestHolds(t *testing.T) {
	// By op less 159: does it hold when a is below b, is b, is above b?
	table := [6][3]bool{
		{false, true, false},
		{true, false, true},
		{true, false, false},
		{false, true, true},
		{false, false, true},
		{true, true, false},
	}
	for i, row := range table {
		for _, a := range edges {
			for _, b := range edges {
				x, y := wrap(big.NewInt(a), 32), wrap(big.NewInt(b), 32)
				want := row[big.NewInt(x).Cmp(big.NewInt(y))+1]
				if v, e := Holds(159+i, a, b); v != want || e != api.OK {
					t.Errorf("Holds(%d, %d, %d) = %v, %d", 159+i, a, b, v, e)
				}
				want = row[big.NewInt(x).Sign()+1]
				if v, e := Holds(153+i, a, b); v != want || e != api.OK {
					t.Errorf("Holds(%d, %d, %d) = %v, %d", 153+i, a, b, v, e)
				}
			}
		}
	}
	if v, e := Holds(155, 4294967295, 7); !v || e != api.OK {
		t.Error("Holds(155, 4294967295, 7)", v, e)
	}
	for _, op := range []int{math.MinInt, -1, 0, 1, 96, 147, 152, 165, 166, 170, 153 + 256, math.MaxInt} {
		if v, e := Holds(op, 0, 0); v || e != api.ErrArg {
			t.Errorf("Holds(%d, 0, 0) = %v, %d", op, v, e)
		}
	}
}

// ask is an answer that must be one.
func ask(t *testing.T, f func(int, int64, int64) (int64, api.Errno), op int, a, b int64) int64 {
	t.Helper()
	v, e := f(op, a, b)
	if e != api.OK {
		t.Fatalf("%d: %d, %d: error %d", op, a, b, e)
	}
	return v
}

// P1.2: sums and products don't hang on the order; a / b times b and the rest are a.
func TestLaws(t *testing.T) {
	for _, a := range edges {
		for _, b := range edges {
			if ask(t, Int, 96, a, b) != ask(t, Int, 96, b, a) || ask(t, Int, 104, a, b) != ask(t, Int, 104, b, a) {
				t.Errorf("ints %d, %d: the order counts", a, b)
			}
			if ask(t, Long, 97, a, b) != ask(t, Long, 97, b, a) || ask(t, Long, 105, a, b) != ask(t, Long, 105, b, a) {
				t.Errorf("longs %d, %d: the order counts", a, b)
			}
			if Cut('I', b) != 0 {
				q, r := ask(t, Int, 108, a, b), ask(t, Int, 112, a, b)
				if back := ask(t, Int, 96, ask(t, Int, 104, q, b), r); back != Cut('I', a) {
					t.Errorf("ints %d, %d: back comes %d", a, b, back)
				}
			}
			if b != 0 {
				q, r := ask(t, Long, 109, a, b), ask(t, Long, 113, a, b)
				if back := ask(t, Long, 97, ask(t, Long, 105, q, b), r); back != a {
					t.Errorf("longs %d, %d: back comes %d", a, b, back)
				}
			}
		}
	}
}

// P1.2: two shifts up are one by both counts together, while that one is below the width.
func TestShiftsTogether(t *testing.T) {
	for _, a := range edges {
		for i := range int64(64) {
			for j := range 64 - i {
				if i+j < 32 && ask(t, Int, 120, ask(t, Int, 120, a, i), j) != ask(t, Int, 120, a, i+j) {
					t.Errorf("int %d by %d and %d", a, i, j)
				}
				if ask(t, Long, 121, ask(t, Long, 121, a, i), j) != ask(t, Long, 121, a, i+j) {
					t.Errorf("long %d by %d and %d", a, i, j)
				}
			}
		}
	}
}
