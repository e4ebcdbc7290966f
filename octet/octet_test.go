package octet

import (
	"bytes"
	"math"
	"testing"

	"samovar/api"
)

// P2.1: numbers are read, from each place and of each width.
func TestLittleAndBig(t *testing.T) {
	b := []byte{0x01, 0x02, 0x03, 0x84, 0x85, 0x86, 0x87, 0x88, 0xff, 0xff}
	for _, x := range []struct {
		at, n       int
		little, big int64
	}{
		{0, 1, 0x01, 0x01},
		{0, 2, 513, 258},
		{1, 2, 0x0302, 0x0203},
		{0, 3, 0x030201, 0x010203},
		{0, 4, 0x84030201, 0x01020384},
		{3, 4, 0x87868584, 0x84858687},
		{3, 5, 0x8887868584, 0x8485868788},
		{3, 6, 0xff8887868584, 0x8485868788ff},
		{3, 7, 0xffff8887868584, 0x8485868788ffff},
		{0, 8, -0x7778797a7bfcfdff, 0x0102038485868788},
		{2, 8, -0x7778797a7bfd, 0x038485868788ffff},
		{8, 1, 255, 255},
		{8, 2, 65535, 65535},
		{9, 1, 255, 255},
	} {
		if v, e := Little(b, x.at, x.n); v != x.little || e != api.OK {
			t.Errorf("Little(%d, %d) = %#x, %d, not %#x", x.at, x.n, v, e, x.little)
		}
		if v, e := Big(b, x.at, x.n); v != x.big || e != api.OK {
			t.Errorf("Big(%d, %d) = %#x, %d, not %#x", x.at, x.n, v, e, x.big)
		}
	}
	all := bytes.Repeat([]byte{0xff}, 8)
	for n := 1; n <= 8; n++ {
		want := int64(-1)
		if n < 8 {
			want = 1<<(8*n) - 1
		}
		for _, f := range []func([]byte, int, int) (int64, api.Errno){Little, Big} {
			if v, e := f(all, 8-n, n); v != want || e != api.OK {
				t.Errorf("%d bytes ff: %d, %d", n, v, e)
			}
		}
	}
}

// P2.1: what isn't there is refused, with 0 beside the error; ErrArg goes ahead of ErrShort.
func TestRefused(t *testing.T) {
	b := []byte{1, 2, 3, 4, 5, 6, 7, 8, 9}
	for _, x := range []struct {
		b     []byte
		at, n int
		e     api.Errno
	}{
		{b, 0, 0, api.ErrArg},
		{b, 0, 9, api.ErrArg},
		{b, 0, -1, api.ErrArg},
		{b, 0, math.MaxInt, api.ErrArg},
		{b, 0, math.MinInt, api.ErrArg},
		{b, -1, 1, api.ErrArg},
		{b, -1, 8, api.ErrArg},
		{b, math.MinInt, 1, api.ErrArg},
		{nil, 0, 0, api.ErrArg},
		{b[:1], 0, 9, api.ErrArg},
		{b[:1], 5, 0, api.ErrArg},
		{b[:1], -1, 2, api.ErrArg},
		{b[:1], 0, 2, api.ErrShort},
		{b, 2, 8, api.ErrShort},
		{b, 8, 2, api.ErrShort},
		{b, 9, 1, api.ErrShort},
		{b, 10, 1, api.ErrShort},
		{b, math.MaxInt, 1, api.ErrShort},
		{b, math.MaxInt, 8, api.ErrShort},
		{b, math.MaxInt - 7, 8, api.ErrShort},
		{nil, 0, 1, api.ErrShort},
		{[]byte{}, 0, 8, api.ErrShort},
		{b, 1, 8, api.OK},
		{b, 8, 1, api.OK},
	} {
		if v, e := Little(x.b, x.at, x.n); e != x.e || e != api.OK && v != 0 {
			t.Errorf("Little(%v, %d, %d) = %d, %d, not %d", x.b, x.at, x.n, v, e, x.e)
		}
		if v, e := Big(x.b, x.at, x.n); e != x.e || e != api.OK && v != 0 {
			t.Errorf("Big(%v, %d, %d) = %d, %d, not %d", x.b, x.at, x.n, v, e, x.e)
		}
	}
}

// P2.1: a list's spare room is no part of it.
func TestSpareRoomIsNotRead(t *testing.T) {
	room := []byte{1, 2, 3, 4}
	if v, e := Big(room[:1], 0, 2); v != 0 || e != api.ErrShort {
		t.Error(v, e)
	}
	if v, e := Little(room[:1], 1, 1); v != 0 || e != api.ErrShort {
		t.Error(v, e)
	}
}

// P2.1: numbers are put, and none of a width that there isn't.
func TestPut(t *testing.T) {
	for _, x := range []struct {
		n           int
		v           int64
		little, big []byte
	}{
		{1, 1, []byte{1}, []byte{1}},
		{1, 0x1ff, []byte{0xff}, []byte{0xff}},
		{1, -128, []byte{0x80}, []byte{0x80}},
		{2, 0x123456, []byte{0x56, 0x34}, []byte{0x34, 0x56}},
		{3, 0x123456, []byte{0x56, 0x34, 0x12}, []byte{0x12, 0x34, 0x56}},
		{4, -1, []byte{0xff, 0xff, 0xff, 0xff}, []byte{0xff, 0xff, 0xff, 0xff}},
		{4, 1, []byte{1, 0, 0, 0}, []byte{0, 0, 0, 1}},
		{8, 0x0102030405060708, []byte{8, 7, 6, 5, 4, 3, 2, 1}, []byte{1, 2, 3, 4, 5, 6, 7, 8}},
		{8, math.MinInt64, []byte{0, 0, 0, 0, 0, 0, 0, 0x80}, []byte{0x80, 0, 0, 0, 0, 0, 0, 0}},
		{8, -2, []byte{0xfe, 0xff, 0xff, 0xff, 0xff, 0xff, 0xff, 0xff}, []byte{0xff, 0xff, 0xff, 0xff, 0xff, 0xff, 0xff, 0xfe}},
		{0, 5, nil, nil},
		{9, 5, nil, nil},
		{-1, 5, nil, nil},
		{math.MaxInt, 5, nil, nil},
		{math.MinInt, 5, nil, nil},
	} {
		if b := PutLittle(x.n, x.v); !bytes.Equal(b, x.little) {
			t.Errorf("PutLittle(%d, %#x) = %x", x.n, x.v, b)
		}
		if b := PutBig(x.n, x.v); !bytes.Equal(b, x.big) {
			t.Errorf("PutBig(%d, %#x) = %x", x.n, x.v, b)
		}
	}
}

// P2.2: what is put is read, and big bytes are the little ones turned round.
func TestThereAndBack(t *testing.T) {
	for _, v := range []int64{0, 1, -1, 127, 128, 255, 256, -129, 65535, 65536, 0x123456789abcdef, -0x123456789abcdef, 1 << 31, 1 << 32, -1 << 31, math.MaxInt64, math.MinInt64, math.MinInt64 + 1} {
		for n := 1; n <= 8; n++ {
			want := v
			if n < 8 {
				want = v & (1<<(8*n) - 1)
			}
			little, big := PutLittle(n, v), PutBig(n, v)
			if got, e := Little(little, 0, n); got != want || e != api.OK {
				t.Errorf("Little of PutLittle(%d, %d) = %d, %d", n, v, got, e)
			}
			if got, e := Big(big, 0, n); got != want || e != api.OK {
				t.Errorf("Big of PutBig(%d, %d) = %d, %d", n, v, got, e)
			}
			for i := range n {
				if little[i] != big[n-1-i] {
					t.Errorf("PutLittle(%d, %d) = %x, PutBig %x", n, v, little, big)
				}
			}
			if r := New(big); r.Num(n) != want || r.Bad() || r.Left() != 0 {
				t.Errorf("Num(%d) of %x", n, big)
			}
		}
	}
}

// askReader tells a reader's place, what is left, and whether it is bad.
func askReader(t *testing.T, r *Reader, at, left int, bad bool) {
	t.Helper()
	if r.At() != at || r.Left() != left || r.Bad() != bad {
		t.Errorf("reader at %d, left %d, bad %v, not %d, %d, %v", r.At(), r.Left(), r.Bad(), at, left, bad)
	}
}

// P2.1: the chapter's reader, step by step.
func TestReader(t *testing.T) {
	r := New([]byte{0x80, 0x01, 0x02})
	askReader(t, r, 0, 3, false)
	if v := r.Signed(1); v != -128 {
		t.Error(v)
	}
	askReader(t, r, 1, 2, false)
	if v := r.Num(2); v != 258 {
		t.Error(v)
	}
	askReader(t, r, 3, 0, false)
	if b := r.Bytes(0); len(b) != 0 {
		t.Error(b)
	}
	askReader(t, r, 3, 0, false)
	if v := r.Num(1); v != 0 {
		t.Error(v)
	}
	askReader(t, r, 3, 0, true)
	if b := r.Bytes(0); len(b) != 0 {
		t.Error(b)
	}
	askReader(t, r, 3, 0, true)
}

// P2.1: Num has no sign below 8 bytes, Signed has one at each width.
func TestReaderSigns(t *testing.T) {
	for n := 1; n <= 8; n++ {
		all := bytes.Repeat([]byte{0xff}, n)
		whole := int64(-1)
		if n < 8 {
			whole = 1<<(8*n) - 1
		}
		if v := New(all).Num(n); v != whole {
			t.Errorf("Num(%d) of ff.. = %d", n, v)
		}
		if v := New(all).Signed(n); v != -1 {
			t.Errorf("Signed(%d) of ff.. = %d", n, v)
		}
		least := append([]byte{0x80}, make([]byte, n-1)...)
		if v := New(least).Signed(n); v != -1<<(8*n-1) {
			t.Errorf("Signed(%d) of 80.. = %d", n, v)
		}
		most := append([]byte{0x7f}, all[1:]...)
		if v := New(most).Signed(n); v != math.MaxInt64>>(64-8*n) {
			t.Errorf("Signed(%d) of 7f.. = %d", n, v)
		}
	}
}

// P2.1: what can't be read makes a reader bad, which it stays, at its place.
func TestReaderGoesBad(t *testing.T) {
	for name, ask := range map[string]func(r *Reader) bool{
		"Num(0)":         func(r *Reader) bool { return r.Num(0) == 0 },
		"Num(-1)":        func(r *Reader) bool { return r.Num(-1) == 0 },
		"Num(9)":         func(r *Reader) bool { return r.Num(9) == 0 },
		"Num(4)":         func(r *Reader) bool { return r.Num(4) == 0 },
		"Num(most)":      func(r *Reader) bool { return r.Num(math.MaxInt) == 0 },
		"Num(least)":     func(r *Reader) bool { return r.Num(math.MinInt) == 0 },
		"Signed(0)":      func(r *Reader) bool { return r.Signed(0) == 0 },
		"Signed(-1)":     func(r *Reader) bool { return r.Signed(-1) == 0 },
		"Signed(9)":      func(r *Reader) bool { return r.Signed(9) == 0 },
		"Signed(8)":      func(r *Reader) bool { return r.Signed(8) == 0 },
		"Signed(most)":   func(r *Reader) bool { return r.Signed(math.MaxInt) == 0 },
		"Signed(least)":  func(r *Reader) bool { return r.Signed(math.MinInt) == 0 },
		"Bytes(-1)":      func(r *Reader) bool { return len(r.Bytes(-1)) == 0 },
		"Bytes(4)":       func(r *Reader) bool { return len(r.Bytes(4)) == 0 },
		"Bytes(1000000)": func(r *Reader) bool { return len(r.Bytes(1000000)) == 0 },
		"Bytes(most)":    func(r *Reader) bool { return len(r.Bytes(math.MaxInt)) == 0 },
		"Bytes(least)":   func(r *Reader) bool { return len(r.Bytes(math.MinInt)) == 0 },
	} {
		r := New([]byte{9, 1, 2, 3})
		r.Num(1)
		if !ask(r) {
			t.Error(name, "answers something")
		}
		askReader(t, r, 1, 3, true)
		// These would all be there, had the reader not gone bad.
		if v := r.Num(1); v != 0 {
			t.Error(name, v)
		}
		if v := r.Signed(2); v != 0 {
			t.Error(name, v)
		}
		if b := r.Bytes(1); len(b) != 0 {
			t.Error(name, b)
		}
		if b := r.Bytes(0); len(b) != 0 {
			t.Error(name, b)
		}
		askReader(t, r, 1, 3, true)
	}
}

// P2.1: a nil reader is bad, at 0, with nothing left; one of no bytes is not bad yet.
func TestNoReaderAndNoBytes(t *testing.T) {
	var r *Reader
	if r.Num(1) != 0 || r.Signed(1) != 0 || len(r.Bytes(0)) != 0 || len(r.Bytes(1)) != 0 || r.Num(-5) != 0 || r.Signed(100) != 0 || len(r.Bytes(-1)) != 0 {
		t.Error("a nil reader answers something")
	}
	askReader(t, r, 0, 0, true)
	for _, b := range [][]byte{nil, {}} {
		r := New(b)
		askReader(t, r, 0, 0, false)
		if got := r.Bytes(0); len(got) != 0 {
			t.Error(got)
		}
		askReader(t, r, 0, 0, false)
		if v := r.Num(1); v != 0 {
			t.Error(v)
		}
		askReader(t, r, 0, 0, true)
	}
}

// P2.1: a reader has its own copy, and what it answers is nobody else's.
func TestReaderKeepsItsOwn(t *testing.T) {
	b := []byte{1, 2, 3, 4, 5, 6}
	r := New(b)
	for i := range b {
		b[i] = 0xee
	}
	if v := r.Num(2); v != 0x0102 {
		t.Errorf("%#x", v)
	}
	part := r.Bytes(2)
	if !bytes.Equal(part, []byte{3, 4}) {
		t.Errorf("%x", part)
	}
	part[0] = 0xdd
	part = append(part, 0xcc, 0xcc)
	if rest := r.Bytes(2); !bytes.Equal(rest, []byte{5, 6}) || part[0] != 0xdd {
		t.Errorf("%x", rest)
	}
	if !bytes.Equal(b, bytes.Repeat([]byte{0xee}, 6)) {
		t.Errorf("what was handed in is now %x", b)
	}
	other := New([]byte{7})
	askReader(t, other, 0, 1, false)
	other.Num(2)
	askReader(t, r, 6, 0, false)
}

// P2.3: whatever is asked, in whatever order: the place never goes back, and the bytes that were read are the bytes.
func TestReaderGoesOn(t *testing.T) {
	b := make([]byte, 200)
	for i := range b {
		b[i] = byte(i*37 + 11)
	}
	for seed := range 300 {
		r := New(b)
		var got []byte
		x := uint32(seed)*2654435761 + 1
		for range 120 {
			x = x*1664525 + 1013904223
			n, at := int(x>>24)%8+1, r.At()
			if x>>18&63 == 0 { // now and then a width that there isn't
				n = int(x>>24)%2*10 - 1
			}
			switch x >> 16 & 3 {
			case 0:
				got = append(got, PutBig(n, r.Num(n))[:r.At()-at]...)
			case 1:
				got = append(got, PutBig(n, r.Signed(n))[:r.At()-at]...)
			default:
				got = append(got, r.Bytes(n-1)...)
			}
			if r.At() < at || r.At() != len(got) || r.At()+r.Left() != len(b) {
				t.Fatalf("seed %d: from %d to %d, left %d, read %d bytes", seed, at, r.At(), r.Left(), len(got))
			}
		}
		if !bytes.Equal(got, b[:len(got)]) {
			t.Fatalf("seed %d: read %x", seed, got)
		}
	}
}

// P2.3: a reader that reads on without a fault reads all the bytes.
func TestReaderReadsAll(t *testing.T) {
	b := make([]byte, 36)
	for i := range b {
		b[i] = byte(250 - 7*i)
	}
	r := New(b)
	var got []byte
	for n := 1; n <= 8; n++ {
		got = append(got, PutBig(n, r.Num(n))...)
		askReader(t, r, len(got), len(b)-len(got), false)
	}
	if !bytes.Equal(got, b) {
		t.Errorf("%x", got)
	}
}
