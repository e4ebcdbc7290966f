package sum

import (
	"bytes"
	"hash/crc32"
	"math"
	"testing"
)

// slow is the sum by the chapter's words, bit by bit, without a table.
func slow(b []byte) int {
	register := uint32(0xffffffff)
	for _, c := range b {
		register ^= uint32(c)
		for range 8 {
			if register%2 == 1 {
				register = register/2 ^ 0xedb88320
			} else {
				register /= 2
			}
		}
	}
	return int(0xffffffff - register)
}

// some are n bytes without a plain rule, others for each seed.
func some(n, seed int) []byte {
	b := make([]byte, n)
	x := uint32(seed)*2654435761 + 12345
	for i := range b {
		x = x*1664525 + 1013904223
		b[i] = byte(x >> 24)
	}
	return b
}

// P3.1: sums of ordinary bytes and at the edges.
func TestOf(t *testing.T) {
	for _, x := range []struct {
		text string
		want int
	}{
		{"", 0},
		{"a", 0xe8b7be43},
		{"abc", 0x352441c2},
		{"123456789", 0xcbf43926},
		{"The quick brown fox jumps over the lazy dog", 0x414fa339},
		{"\x00", 0xd202ef8d},
		{"\xff", 0xff000000},
		{"\x00\x00\x00\x00", 0x2144df1c},
		{"\xff\xff\xff\xff", 0xffffffff},
	} {
		if v := Of([]byte(x.text)); v != x.want {
			t.Errorf("Of(%q) = %#x, not %#x", x.text, v, x.want)
		}
		if v := New().Add(0, []byte(x.text)); v != x.want {
			t.Errorf("Add(0, %q) = %#x, not %#x", x.text, v, x.want)
		}
	}
}

// P3.1: no parts, and parts without bytes, have the sum 0, and count for nothing beside others.
func TestOfNoBytes(t *testing.T) {
	if v := Of(); v != 0 {
		t.Error("of no parts", v)
	}
	if v := Of(nil); v != 0 {
		t.Error("of nil", v)
	}
	if v := Of([]byte{}, nil, []byte{}); v != 0 {
		t.Error("of empty parts", v)
	}
	if v := Of(nil, []byte("1234"), []byte{}, nil, []byte("56789"), nil); v != 0xcbf43926 {
		t.Errorf("of empty parts between others %#x", v)
	}
}

// P3.1: each byte, alone and behind others, and long texts: by the chapter's words and by the library.
func TestOfIsReckonedBitByBit(t *testing.T) {
	texts := [][]byte{some(1000, 1), some(32768, 2), some(65536, 3), make([]byte, 5000), bytes.Repeat([]byte{0xff}, 5000)}
	for c := range 256 {
		texts = append(texts, []byte{byte(c)}, []byte{7, byte(c)}, []byte{byte(c), byte(c), byte(c)})
	}
	for n := range 70 {
		texts = append(texts, some(n, n))
	}
	for _, b := range texts {
		v := Of(b)
		if v != slow(b) || v != int(crc32.ChecksumIEEE(b)) {
			t.Errorf("%d bytes from % x on: %#x, not %#x", len(b), b[:min(len(b), 8)], v, slow(b))
		}
		if v < 0 || v > 1<<32-1 {
			t.Errorf("%d bytes: %d is no number of 32 bits without a sign", len(b), v)
		}
	}
}

// P3.1: of a sum that is handed in its lowest 32 bits count; without bytes behind they are the answer.
func TestAddTakesTheLowestBits(t *testing.T) {
	table := New()
	b := []byte("behind")
	for _, x := range []struct{ sum, low int }{
		{0, 0}, {1, 1}, {1<<32 - 1, 1<<32 - 1}, {1 << 31, 1 << 31}, {1<<31 - 1, 1<<31 - 1},
		{1 << 32, 0}, {1<<32 + 5, 5}, {1<<40 + 0xcbf43926, 0xcbf43926}, {0x123456789abcdef, 0x89abcdef},
		{-1, 1<<32 - 1}, {-2, 1<<32 - 2}, {-1 << 31, 1 << 31}, {-1 << 32, 0}, {-1<<32 + 7, 7}, {-1<<32 - 1, 1<<32 - 1},
		{math.MaxInt, 1<<32 - 1}, {math.MinInt, 0}, {math.MinInt + 9, 9},
	} {
		for _, none := range [][]byte{nil, {}} {
			if v := table.Add(x.sum, none); v != x.low {
				t.Errorf("Add(%d, none) = %d, not %d", x.sum, v, x.low)
			}
		}
		want := int(crc32.Update(uint32(x.low), crc32.IEEETable, b))
		if v := table.Add(x.sum, b); v != want {
			t.Errorf("Add(%d, %q) = %#x, not %#x", x.sum, b, v, want)
		}
	}
}

// P3.1: a nil table answers 0, whatever it is asked.
func TestNoTable(t *testing.T) {
	var table *Table
	for _, sum := range []int{0, 5, -1, 1 << 32, math.MaxInt, math.MinInt} {
		for _, b := range [][]byte{nil, {}, {0}, []byte("123456789")} {
			if v := table.Add(sum, b); v != 0 {
				t.Errorf("Add(%d, %q) of no table = %d", sum, b, v)
			}
		}
	}
}

// P3.1: a table that New didn't make sums as others do.
func TestTableOfZeroValue(t *testing.T) {
	var table Table
	if v := table.Add(table.Add(0, []byte("1234")), []byte("56789")); v != 0xcbf43926 {
		t.Errorf("%#x", v)
	}
	if v := new(Table).Add(1<<32+5, nil); v != 5 {
		t.Error(v)
	}
}

// P3.1: what is asked changes neither a table nor the bytes, and tables don't depend on one another.
func TestNothingIsKept(t *testing.T) {
	one, other := New(), New()
	room := []byte("123456789 and spare room")
	b := room[:9]
	parts := [][]byte{b[:4], b[4:]}
	for range 3 {
		if v := one.Add(0, b); v != 0xcbf43926 {
			t.Errorf("%#x", v)
		}
		other.Add(77, []byte("something else"))
		if v := Of(parts...); v != 0xcbf43926 {
			t.Errorf("%#x", v)
		}
	}
	if string(room) != "123456789 and spare room" || string(parts[0]) != "1234" || string(parts[1]) != "56789" || len(parts) != 2 {
		t.Errorf("what was handed in is now %q, %q", room, parts)
	}
	b[0] = 'x'
	if v := one.Add(0, b); v != slow(b) {
		t.Errorf("of changed bytes %#x", v)
	}
}

// P3.2: Add goes on behind each beginning, and Of takes each cut in two.
func TestTwoParts(t *testing.T) {
	table := New()
	b := some(300, 9)
	want := slow(b)
	for cut := range len(b) + 1 {
		if v := table.Add(table.Add(0, b[:cut]), b[cut:]); v != want {
			t.Errorf("cut at %d: Add %#x, not %#x", cut, v, want)
		}
		if v := table.Add(slow(b[:cut]), b[cut:]); v != want {
			t.Errorf("cut at %d: Add behind the beginning's own sum %#x, not %#x", cut, v, want)
		}
		if v := Of(b[:cut], b[cut:]); v != want {
			t.Errorf("cut at %d: Of %#x, not %#x", cut, v, want)
		}
	}
}

// P3.2: many parts, in any cuts, some of them empty.
func TestManyParts(t *testing.T) {
	table := New()
	for seed := range 200 {
		b, lengths := some(500, seed), some(60, seed+1000)
		var parts [][]byte
		sum, at := 0, 0
		for _, l := range lengths {
			n := min(int(l)%17, len(b)-at)
			parts = append(parts, b[at:at+n])
			sum = table.Add(sum, b[at:at+n])
			at += n
			if sum != slow(b[:at]) {
				t.Fatalf("seed %d: behind %d bytes Add %#x, not %#x", seed, at, sum, slow(b[:at]))
			}
		}
		if v := Of(parts...); v != sum {
			t.Errorf("seed %d: Of %#x, not %#x", seed, v, sum)
		}
	}
	b := some(300, 4)
	var each [][]byte
	for i := range b {
		each = append(each, b[i:i+1])
	}
	if v := Of(each...); v != slow(b) {
		t.Errorf("byte by byte %#x", v)
	}
}

// both are the bits that just one of two texts of one length has.
func both(a, b []byte) []byte {
	out := make([]byte, len(a))
	for i := range a {
		out[i] = a[i] ^ b[i]
	}
	return out
}

// P3.3: two sums differ by exclusive or as that of the texts' exclusive or does from that of noughts.
func TestSumsOfOneLengthDiffer(t *testing.T) {
	for n := range 100 {
		for seed := range 20 {
			a, b := some(n, seed), some(n, seed+500)
			if Of(a)^Of(b) != Of(both(a, b))^Of(make([]byte, n)) {
				t.Errorf("%d bytes, seed %d: %#x, %#x, %#x, %#x", n, seed, Of(a), Of(b), Of(both(a, b)), Of(make([]byte, n)))
			}
		}
	}
}

// P3.4: one changed byte, whichever it is and whatever it becomes, changes the sum.
func TestOneByteChanged(t *testing.T) {
	b := some(40, 3)
	was := Of(b)
	for at := range b {
		for change := 1; change < 256; change++ {
			b[at] ^= byte(change)
			if Of(b) == was {
				t.Errorf("the byte %d by %#x: the sum is still %#x", at, change, was)
			}
			b[at] ^= byte(change)
		}
	}
}

// P3.4: two to four changed neighbours change the sum, at the beginning, at the end and between.
func TestNeighboursChanged(t *testing.T) {
	table := New()
	for _, size := range []int{2, 3, 4} {
		for _, n := range []int{size, size + 1, 50, 4000} {
			b := some(n, n)
			was := table.Add(0, b)
			for k := range 300 {
				changes := some(size, k)
				// Also changes of single bits, and of the outermost bits alone.
				if k < 8*size {
					clear(changes)
					changes[k/8] = 1 << (k % 8)
				} else if k == 8*size {
					clear(changes)
					changes[0], changes[size-1] = 1, 0x80
				}
				if bytes.Equal(changes, make([]byte, size)) {
					continue
				}
				at := k * 37 % (n - size + 1)
				other := append([]byte(nil), b...)
				copy(other[at:], both(b[at:at+size], changes))
				if table.Add(0, other) == was {
					t.Errorf("%d bytes, from %d on by % x: the sum is still %#x", n, at, changes, was)
				}
			}
		}
	}
}
