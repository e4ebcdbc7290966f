package bits

import (
	"bytes"
	"math"
	"testing"

	"samovar/api"
)

// chance is a row of numbers without a plain rule, another one for each seed.
type chance uint32

func (c *chance) below(n int) int {
	*c = *c*1664525 + 1013904223
	return int(uint32(*c)>>8) % n
}

func (c *chance) some(n int) []byte {
	b := make([]byte, n)
	for i := range b {
		b[i] = byte(c.below(256))
	}
	return b
}

// spread are the bits of bytes, one an item, the lowest of the first byte ahead.
func spread(b []byte) []int {
	var out []int
	for _, c := range b {
		for range 8 {
			out = append(out, int(c%2))
			c /= 2
		}
	}
	return out
}

// number is the number of bits of which the first one is the lowest.
func number(row []int) int {
	v, worth := 0, 1
	for _, bit := range row {
		v += bit * worth
		worth *= 2
	}
	return v
}

// packed are the bytes of bits, noughts behind the last one.
func packed(row []int) []byte {
	var out []byte
	for i := 0; i < len(row); i += 8 {
		out = append(out, byte(number(row[i:min(i+8, len(row))])))
	}
	return out
}

func askReader(t *testing.T, r *Reader, at, left int) {
	t.Helper()
	if r.At() != at || r.Left() != left {
		t.Errorf("reader at %d, left %d, not %d, %d", r.At(), r.Left(), at, left)
	}
}

func askTake(t *testing.T, r *Reader, n, want int, wantE api.Errno) {
	t.Helper()
	if v, e := r.Take(n); v != want || e != wantE {
		t.Errorf("Take(%d) = %d, %d, not %d, %d", n, v, e, want, wantE)
	}
}

func askBytes(t *testing.T, r *Reader, n int, want []byte, wantE api.Errno) {
	t.Helper()
	if b, e := r.Bytes(n); !bytes.Equal(b, want) || e != wantE {
		t.Errorf("Bytes(%d) = % x, %d, not % x, %d", n, b, e, want, wantE)
	}
}

func askWriter(t *testing.T, w *Writer, size int, want ...byte) {
	t.Helper()
	if w.Len() != size || !bytes.Equal(w.Bytes(), want) {
		t.Errorf("writer of %d bits, % x, not %d, % x", w.Len(), w.Bytes(), size, want)
	}
}

func askPut(t *testing.T, w *Writer, n, v int, want api.Errno) {
	t.Helper()
	if e := w.Put(n, v); e != want {
		t.Errorf("Put(%d, %d) = %d, not %d", n, v, e, want)
	}
}

// P4.1: the chapter's reader, step by step.
func TestReader(t *testing.T) {
	r := New([]byte{0x05, 0x80})
	askReader(t, r, 0, 16)
	askTake(t, r, 1, 1, api.OK)
	askReader(t, r, 1, 15)
	askTake(t, r, 3, 2, api.OK)
	askReader(t, r, 4, 12)
	askTake(t, r, 12, 2048, api.OK)
	askReader(t, r, 16, 0)
	askTake(t, r, 1, 0, api.ErrShort)
	askReader(t, r, 16, 0)
	r.Align()
	askReader(t, r, 16, 0)
	askBytes(t, r, 0, nil, api.OK)
	askReader(t, r, 16, 0)
	askTake(t, r, 17, 0, api.ErrArg)
	askReader(t, r, 16, 0)
}

// P4.1: each width at each place, over one, two and three bytes; what isn't there passes nothing.
func TestTake(t *testing.T) {
	var c chance
	for _, b := range [][]byte{c.some(6), {0xff, 0xff, 0xff, 0xff}, {0, 0, 0, 0}, {0x55, 0xaa, 0x55}, {0x80}, nil} {
		all := spread(b)
		for at := range len(all) + 1 {
			for n := range 17 {
				r := New(b)
				for range at {
					r.Take(1)
				}
				askReader(t, r, at, len(all)-at)
				if n > len(all)-at {
					askTake(t, r, n, 0, api.ErrShort)
					askReader(t, r, at, len(all)-at)
					continue
				}
				askTake(t, r, n, number(all[at:at+n]), api.OK)
				askReader(t, r, at+n, len(all)-at-n)
			}
		}
	}
}

// P4.1: counts that aren't 0 to 16 are ErrArg, also where nothing is left, and pass nothing.
func TestTakeRefused(t *testing.T) {
	r := New([]byte{0xb6, 0xff, 0xff, 0xff})
	end := New([]byte{9})
	end.Take(8)
	for _, n := range []int{-1, -2, -8, -16, math.MinInt, math.MinInt32, 17, 18, 24, 32, 64, 1 << 32, 1<<32 + 3, math.MaxInt} {
		askTake(t, r, n, 0, api.ErrArg)
		askReader(t, r, 0, 32)
		askTake(t, end, n, 0, api.ErrArg)
		askReader(t, end, 8, 0)
		askTake(t, New(nil), n, 0, api.ErrArg)
	}
	askTake(t, r, 3, 6, api.OK)
	askTake(t, r, 17, 0, api.ErrArg)
	askTake(t, r, -1, 0, api.ErrArg)
	askTake(t, r, 5, 0x16, api.OK)
	askTake(t, r, 16, 0xffff, api.OK)
	// Fewer are left than are asked for: they stay, and can be taken.
	askTake(t, r, 9, 0, api.ErrShort)
	askTake(t, r, 16, 0, api.ErrShort)
	askReader(t, r, 24, 8)
	askTake(t, r, 8, 0xff, api.OK)
	askTake(t, r, 0, 0, api.OK)
	askReader(t, r, 32, 0)
}

// P4.1: Align passes nothing at a byte's beginning, and up to the next one from within.
func TestReaderAlign(t *testing.T) {
	b := []byte{0x11, 0x22, 0x33}
	for at := range 25 {
		r := New(b)
		for range at {
			r.Take(1)
		}
		want := (at + 7) / 8 * 8
		for range 2 {
			r.Align()
			askReader(t, r, want, 24-want)
		}
		if want < 24 {
			askTake(t, r, 8, int(b[want/8]), api.OK)
		} else {
			askTake(t, r, 1, 0, api.ErrShort)
		}
	}
	r := New(nil)
	r.Align()
	askReader(t, r, 0, 0)
}

// P4.1: Bytes from each place and of each count; with an error nothing is passed, not by Align either.
func TestReaderBytes(t *testing.T) {
	b := []byte{0x11, 0x22, 0x33, 0x44}
	for at := range 33 {
		for _, n := range []int{0, 1, 2, 3, 4, 5, 32, 33, 1 << 28, 1 << 60, 1 << 61, math.MaxInt32, math.MaxInt - 3, math.MaxInt, -1, -4, -8, math.MinInt32, math.MinInt + 1, math.MinInt} {
			r := New(b)
			for range at {
				r.Take(1)
			}
			from := (at + 7) / 8
			if n < 0 {
				askBytes(t, r, n, nil, api.ErrArg)
				askReader(t, r, at, 32-at)
			} else if n > 4-from {
				askBytes(t, r, n, nil, api.ErrShort)
				askReader(t, r, at, 32-at)
			} else {
				askBytes(t, r, n, b[from:from+n], api.OK)
				askReader(t, r, 8*(from+n), 32-8*(from+n))
			}
		}
	}
	askBytes(t, New(nil), 0, nil, api.OK)
	askBytes(t, New(nil), 1, nil, api.ErrShort)
	askBytes(t, New([]byte{}), -1, nil, api.ErrArg)
}

// P4.1: behind an error a reader answers as if it had not been asked.
func TestReaderGoesOnBehindErrors(t *testing.T) {
	r := New([]byte{0xe5, 0x7e, 0x0f})
	askTake(t, r, 2, 1, api.OK)
	askBytes(t, r, 3, nil, api.ErrShort)
	askBytes(t, r, -1, nil, api.ErrArg)
	askTake(t, r, 17, 0, api.ErrArg)
	askReader(t, r, 2, 22)
	askTake(t, r, 6, 0x39, api.OK)
	askTake(t, r, 1, 0, api.OK)
	askBytes(t, r, 2, nil, api.ErrShort)
	askReader(t, r, 9, 15)
	askTake(t, r, 3, 7, api.OK)
	askBytes(t, r, 1, []byte{0x0f}, api.OK)
	askReader(t, r, 24, 0)
}

// P4.1: a nil reader: ErrArg, 0, whatever is asked.
func TestNoReader(t *testing.T) {
	var r *Reader
	for _, n := range []int{0, 1, 16, 17, -1, math.MaxInt, math.MinInt} {
		askTake(t, r, n, 0, api.ErrArg)
		askBytes(t, r, n, nil, api.ErrArg)
	}
	r.Align()
	askReader(t, r, 0, 0)
}

// P4.1: a reader has its own copy, and what it answers is nobody else's.
func TestReaderKeepsItsOwn(t *testing.T) {
	room := []byte{1, 2, 3, 4, 5, 6}
	b := room[:4]
	r, other := New(b), New(b)
	for i := range room {
		room[i] = 0xee
	}
	askTake(t, r, 8, 1, api.OK)
	part, _ := r.Bytes(1)
	if !bytes.Equal(part, []byte{2}) {
		t.Errorf("% x", part)
	}
	part[0] = 0xdd
	part = append(part, 0xcc, 0xcc)
	askReader(t, r, 16, 16)
	askBytes(t, r, 3, nil, api.ErrShort)
	askBytes(t, r, 2, []byte{3, 4}, api.OK)
	askReader(t, other, 0, 32)
	askBytes(t, other, 4, []byte{1, 2, 3, 4}, api.OK)
	if !bytes.Equal(room, bytes.Repeat([]byte{0xee}, 6)) || part[0] != 0xdd {
		t.Errorf("what was handed in is now % x", room)
	}
}

// P4.1: bytes changed behind New, in part passed already, are not seen.
func TestReaderIsNotChanged(t *testing.T) {
	b := []byte{0x0f, 0xf0, 0x3c}
	r := New(b)
	askTake(t, r, 4, 0xf, api.OK)
	b[0], b[1], b[2] = 0xaa, 0xaa, 0xaa
	askTake(t, r, 12, 0xf00, api.OK)
	askTake(t, r, 8, 0x3c, api.OK)
}

// P4.1: the chapter's writer, step by step.
func TestWriter(t *testing.T) {
	w := &Writer{}
	askWriter(t, w, 0)
	askPut(t, w, 3, 5, api.OK)
	askWriter(t, w, 3, 0x05)
	askPut(t, w, 2, 0, api.OK)
	askWriter(t, w, 5, 0x05)
	w.Align()
	askWriter(t, w, 8, 0x05)
	w.Add(7)
	askWriter(t, w, 16, 0x05, 0x07)
}

// P4.1: each width behind each count of bits; of a number just its lowest bits are put.
func TestPut(t *testing.T) {
	for _, v := range []int{0, 1, 2, 0x5555, 0xaaaa, 0x8001, 0xffff, 0x10000, 0x1ffff, 1 << 40, -1, -2, -0x8000, -0x10000, math.MinInt, math.MaxInt, 0x123456789abcdef, -0x123456789abcdef} {
		for ahead := range 25 {
			for n := range 17 {
				w := &Writer{}
				var want []int
				for i := range ahead {
					askPut(t, w, 1, i%3, api.OK)
					want = append(want, i%3%2)
				}
				askPut(t, w, n, v, api.OK)
				for i := range n {
					want = append(want, v>>i&1)
				}
				askWriter(t, w, len(want), packed(want)...)
				askPut(t, w, 1, 1, api.OK)
				askWriter(t, w, len(want)+1, packed(append(want, 1))...)
			}
		}
	}
}

// P4.1: counts that aren't 0 to 16 are ErrArg, and put nothing.
func TestPutRefused(t *testing.T) {
	w := &Writer{}
	for _, n := range []int{-1, -8, -16, math.MinInt, math.MinInt32, 17, 18, 24, 32, 64, 1 << 32, 1<<32 + 3, math.MaxInt} {
		askPut(t, w, n, -1, api.ErrArg)
		askPut(t, w, n, 0, api.ErrArg)
	}
	askWriter(t, w, 0)
	askPut(t, w, 3, 2, api.OK)
	askPut(t, w, 17, -1, api.ErrArg)
	askPut(t, w, -1, -1, api.ErrArg)
	askWriter(t, w, 3, 0x02)
	askPut(t, w, 16, -1, api.OK)
	askWriter(t, w, 19, 0xfa, 0xff, 0x07)
}

// P4.1: Align and Add, at a byte's beginning and within one, with bytes and without.
func TestWriterAlignAndAdd(t *testing.T) {
	for n := range 17 {
		w := &Writer{}
		askPut(t, w, n, 0xffff, api.OK)
		full := bytes.Clone(w.Bytes())
		for range 2 {
			w.Align()
			askWriter(t, w, 8*len(full), full...)
		}
		askPut(t, w, 4, 9, api.OK)
		askWriter(t, w, 8*len(full)+4, append(bytes.Clone(full), 9)...)

		w = &Writer{}
		askPut(t, w, n, 0xffff, api.OK)
		w.Add()
		askWriter(t, w, 8*len(full), full...)
		askPut(t, w, 1, 1, api.OK)
		w.Add([]byte{}...)
		w.Add(0x81, 0, 0xff)
		askPut(t, w, 2, 2, api.OK)
		askWriter(t, w, 8*len(full)+34, append(bytes.Clone(full), 1, 0x81, 0, 0xff, 2)...)
	}
	w := &Writer{}
	w.Align()
	w.Add()
	askWriter(t, w, 0)
	w.Add(0)
	askWriter(t, w, 8, 0)
}

// P4.1: the zero value has nothing, as a variable too; writers don't depend on one another.
func TestWriterOfZeroValue(t *testing.T) {
	var w, other Writer
	askWriter(t, &w, 0)
	askPut(t, &w, 0, 7, api.OK)
	askWriter(t, &w, 0)
	askPut(t, &w, 1, 1, api.OK)
	askPut(t, &other, 2, 2, api.OK)
	askWriter(t, &w, 1, 1)
	askWriter(t, &other, 2, 2)
}

// P4.1: a nil writer: ErrArg, 0, nothing, whatever is asked.
func TestNoWriter(t *testing.T) {
	var w *Writer
	for _, n := range []int{0, 1, 16, 17, -1, math.MaxInt, math.MinInt} {
		askPut(t, w, n, 1, api.ErrArg)
	}
	w.Align()
	w.Add()
	w.Add(1, 2)
	askWriter(t, w, 0)
}

// P4.1: a writer keeps nothing that is handed in, and what it answers is nobody else's.
func TestWriterKeepsItsOwn(t *testing.T) {
	room := []byte{1, 2, 3, 4}
	var w Writer
	w.Add(room[:2]...)
	askPut(t, &w, 4, 5, api.OK)
	w.Add(6)
	if !bytes.Equal(room, []byte{1, 2, 3, 4}) {
		t.Errorf("what was handed in is now % x", room)
	}
	room[0], room[1] = 0xee, 0xee
	askWriter(t, &w, 32, 1, 2, 5, 6)

	out := w.Bytes()
	out[0], out[3] = 0xdd, 0xdd
	out = append(out, 0xcc)
	askWriter(t, &w, 32, 1, 2, 5, 6)
	out = w.Bytes()
	askPut(t, &w, 3, 7, api.OK)
	w.Add(8)
	if !bytes.Equal(out, []byte{1, 2, 5, 6}) {
		t.Errorf("what was answered is now % x", out)
	}
	out = append(out, 0xcc)
	askWriter(t, &w, 48, 1, 2, 5, 6, 7, 8)

	// Also within a byte, which later bits go on with.
	var half Writer
	askPut(t, &half, 4, 5, api.OK)
	out = half.Bytes()
	askPut(t, &half, 4, 10, api.OK)
	if !bytes.Equal(out, []byte{5}) {
		t.Errorf("what was answered is now % x", out)
	}
	out[0] = 0
	askWriter(t, &half, 8, 0xa5)
	w.Add(w.Bytes()...)
	askWriter(t, &w, 96, 1, 2, 5, 6, 7, 8, 1, 2, 5, 6, 7, 8)
}

// P4.1: a reader asked anything, in any row, answers as its bits spread out say.
func TestReaderInAnyRow(t *testing.T) {
	for seed := range 400 {
		c := chance(seed)
		b := c.some(c.below(80))
		r, all, at := New(b), spread(b), 0
		for range 150 {
			switch c.below(5) {
			case 0:
				r.Align()
				at += -at & 7
			case 1:
				n, from := c.below(6)-1, (at+7)/8
				if n < 0 {
					askBytes(t, r, n, nil, api.ErrArg)
				} else if n > len(b)-from {
					askBytes(t, r, n, nil, api.ErrShort)
				} else {
					askBytes(t, r, n, b[from:from+n], api.OK)
					at = 8 * (from + n)
				}
			default:
				n := c.below(20) - 1
				if n < 0 || n > 16 {
					askTake(t, r, n, 0, api.ErrArg)
				} else if n > len(all)-at {
					askTake(t, r, n, 0, api.ErrShort)
				} else {
					askTake(t, r, n, number(all[at:at+n]), api.OK)
					at += n
				}
			}
			askReader(t, r, at, len(all)-at)
		}
		if t.Failed() {
			t.Fatal("seed", seed)
		}
	}
}

// P4.1: a writer told anything, in any row, has the bits that were put, one behind the other.
func TestWriterInAnyRow(t *testing.T) {
	for seed := range 400 {
		c := chance(seed)
		w := &Writer{}
		var all []int
		for range 80 {
			switch c.below(6) {
			case 0:
				w.Align()
				all = append(all, make([]int, -len(all)&7)...)
			case 1:
				b := c.some(c.below(4))
				w.Add(b...)
				all = append(all, make([]int, -len(all)&7)...)
				all = append(all, spread(b)...)
			default:
				n, v := c.below(20)-1, c.below(1<<24)-1<<23
				if n < 0 || n > 16 {
					askPut(t, w, n, v, api.ErrArg)
					continue
				}
				askPut(t, w, n, v, api.OK)
				for i := range n {
					all = append(all, v>>i&1)
				}
			}
			if c.below(8) == 0 {
				askWriter(t, w, len(all), packed(all)...)
			}
		}
		askWriter(t, w, len(all), packed(all)...)
		if t.Failed() {
			t.Fatal("seed", seed)
		}
	}
}

// P4.2: what is put is taken, in the same cuts, with bytes between, and up to the last bit.
func TestTakenInTheSameCuts(t *testing.T) {
	for seed := range 300 {
		c := chance(seed)
		type piece struct {
			n, v int
			b    []byte
		}
		var pieces []piece
		w := &Writer{}
		for range c.below(60) {
			if c.below(6) == 0 {
				p := piece{n: -1, b: c.some(c.below(4))}
				w.Add(p.b...)
				pieces = append(pieces, p)
				continue
			}
			n := c.below(17)
			p := piece{n: n, v: c.below(1 << n)}
			// Bits above those that are put count for nothing.
			askPut(t, w, n, p.v|c.below(1<<20)<<n, api.OK)
			pieces = append(pieces, p)
		}
		r := New(w.Bytes())
		for _, p := range pieces {
			if p.n < 0 {
				askBytes(t, r, len(p.b), p.b, api.OK)
			} else {
				askTake(t, r, p.n, p.v, api.OK)
			}
		}
		if r.At() != w.Len() || r.Left() != -w.Len()&7 {
			t.Errorf("seed %d: at %d, left %d of %d", seed, r.At(), r.Left(), w.Len())
		}
		askTake(t, r, r.Left(), 0, api.OK)
		askTake(t, r, 1, 0, api.ErrShort)
	}
}

// P4.2: what is put in some cuts is taken in others, bit by bit too, and the noughts behind it.
func TestTakenInOtherCuts(t *testing.T) {
	for seed := range 300 {
		c := chance(seed)
		w := &Writer{}
		var all []int
		for range c.below(60) {
			n := c.below(17)
			v := c.below(1 << n)
			askPut(t, w, n, v, api.OK)
			for i := range n {
				all = append(all, v>>i&1)
			}
		}
		all = append(all, make([]int, -len(all)&7)...)
		r, single := New(w.Bytes()), New(w.Bytes())
		for at := 0; at < len(all); {
			n := min(c.below(17), len(all)-at)
			askTake(t, r, n, number(all[at:at+n]), api.OK)
			at += n
		}
		for _, bit := range all {
			askTake(t, single, 1, bit, api.OK)
		}
		askReader(t, r, len(all), 0)
		askReader(t, single, len(all), 0)
		if t.Failed() {
			t.Fatal("seed", seed)
		}
	}
}
