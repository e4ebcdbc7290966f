package inflate

import (
	"bytes"
	"compress/flate"
	"io"
	"math"
	"slices"
	"strings"
	"testing"

	"samovar/api"
)

// askAll asks what bytes unpack to.
func askAll(t *testing.T, b []byte, limit int, want []byte, wantUsed int) {
	t.Helper()
	out, used, e := All(b, limit)
	if !bytes.Equal(out, want) || used != wantUsed || e != api.OK {
		t.Errorf("All(%d bytes % x, %d) = %d bytes % x, %d, %d, not %d bytes % x, %d", len(b), b[:min(len(b), 40)], limit, len(out), out[:min(len(out), 40)], used, e, len(want), want[:min(len(want), 40)], wantUsed)
	}
}

// askNo asks for an error, and that nothing stands beside it.
func askNo(t *testing.T, b []byte, limit int, want api.Errno) {
	t.Helper()
	if out, used, e := All(b, limit); len(out) != 0 || used != 0 || e != want {
		t.Errorf("All(%d bytes % x, %d) = %d bytes, %d, %d, not %d", len(b), b[:min(len(b), 40)], limit, len(out), used, e, want)
	}
}

// askWhole asks what a stream unpacks to, with the limit that is met exactly, one below, one above, and the greatest.
func askWhole(t *testing.T, s *stream, want []byte) {
	t.Helper()
	b := s.bytes()
	for _, limit := range []int{len(want), min(len(want)+1, api.MaxEntry), api.MaxEntry} {
		askAll(t, b, limit, want, len(b))
	}
	if len(want) > 0 {
		askNo(t, b, len(want)-1, api.ErrLong)
	}
}

// same are n times one byte.
func same(n int, c byte) []byte { return bytes.Repeat([]byte{c}, n) }

// grown is a text with a copy behind it: what stands so far back, again and again.
func grown(text []byte, size, back int) []byte {
	again := bytes.Repeat(text[len(text)-back:], size/back+1)
	return slices.Concat(text, again[:size])
}

// few are lengths of so many symbols, of which four have words of two bits.
func few(size int, syms ...int) []int {
	lengths := make([]int, size)
	for _, sym := range syms {
		lengths[sym] = 2
	}
	return lengths
}

// P6.1: the chapter's examples.
func TestExamples(t *testing.T) {
	b := []byte{0x01, 0x02, 0x00, 0xfd, 0xff, 0x61, 0x62}
	askAll(t, b, 2, []byte("ab"), 7)
	askNo(t, b, 1, api.ErrLong)
	askAll(t, []byte{0x03, 0x00}, 0, nil, 2)
	askAll(t, []byte{0x03, 0x00}, 9, nil, 2)
	askAll(t, []byte{0x4b, 0x04, 0x00}, 1, []byte("a"), 3)
	askNo(t, []byte{0x07}, 9, api.ErrBlock)
	askNo(t, nil, 9, api.ErrShort)
	askNo(t, []byte{}, 0, api.ErrShort)
}

// P6.1: a limit below 0 or above MaxEntry is refused, whatever the bytes are.
func TestLimitsThatMayNotBe(t *testing.T) {
	for _, limit := range []int{-1, -2, math.MinInt, api.MaxEntry + 1, 1 << 32, math.MaxInt} {
		for _, b := range [][]byte{nil, {0x03, 0x00}, {0x07}, {0x01, 0x02, 0x00, 0xfd, 0xff, 0x61, 0x62}} {
			askNo(t, b, limit, api.ErrArg)
		}
	}
}

// P6.1: the kind 3 is none, in the first block and behind others, at each bit.
func TestNoKind(t *testing.T) {
	for last := range 2 {
		askNo(t, new(stream).num(1, last).num(2, 3).bytes(), 9, api.ErrBlock)
		for n := range 9 {
			s := new(stream)
			for range n {
				s.fixed(0, 256)
			}
			askNo(t, s.num(1, last).num(2, 3).bytes(), 0, api.ErrBlock)
		}
	}
}

// P6.1: stored blocks of no bytes, of some, and of as many as may be.
func TestStored(t *testing.T) {
	var c chance
	for _, n := range []int{0, 1, 2, 255, 256, 257, 1000, 32767, 32768} {
		b := c.some(n)
		askWhole(t, new(stream).stored(1, b), b)
		askWhole(t, new(stream).stored(0, b).stored(1, nil), b)
	}
	all := c.some(32768)
	askWhole(t, new(stream).stored(0, all[:20000]).stored(0, nil).stored(1, all[20000:]), all)
	askNo(t, new(stream).stored(0, all).stored(1, []byte{1}).bytes(), api.MaxEntry, api.ErrLong)
}

// P6.1: a stored block that begins within a byte, at each bit; the bits that it passes say nothing.
func TestStoredWithinAByte(t *testing.T) {
	for n := range 9 {
		for bit := range byte(2) {
			s := new(stream)
			for range n {
				s.fixed(0, 256)
			}
			s.num(3, 1).align(bit).num(16, 3).num(16, 65532).num(8, 'x').num(8, 'y').num(8, 'z')
			askWhole(t, s, []byte("xyz"))
			s = new(stream)
			s.num(3, 0).align(bit).num(16, 1).num(16, 65534).num(8, 'x').fixed(1, 'y', 256)
			askWhole(t, s, []byte("xy"))
		}
	}
}

// P6.1: each bit of a stored block's length and of its opposite counts; that is asked ahead of the limit, and this ahead of the bytes.
func TestStoredErrors(t *testing.T) {
	for i := range 32 {
		b := new(stream).stored(1, []byte("ab")).bytes()
		b[1+i/8] ^= 1 << (i % 8)
		askNo(t, b, 9, api.ErrStored)
		askNo(t, b, 0, api.ErrStored)
		askNo(t, b[:5], 9, api.ErrStored)
	}
	askNo(t, []byte{1, 2, 0, 2, 0, 'a', 'b'}, 9, api.ErrStored)
	askNo(t, []byte{1, 0, 0, 0, 0}, 9, api.ErrStored)
	askNo(t, []byte{1, 2, 0, 0, 0}, 9, api.ErrStored)
	for n := range 5 {
		askNo(t, []byte{1, 2, 0, 2, 0}[:n], 9, api.ErrShort)
	}
	long := []byte{1, 0xff, 0xff, 0, 0}
	askNo(t, long, api.MaxEntry, api.ErrLong)
	askNo(t, []byte{1, 1, 0x80, 0xfe, 0x7f}, api.MaxEntry, api.ErrLong)
	askNo(t, []byte{1, 0, 0x80, 0xff, 0x7f}, api.MaxEntry, api.ErrShort)
	askNo(t, []byte{1, 2, 0, 0xfd, 0xff}, 1, api.ErrLong)
	askNo(t, []byte{1, 2, 0, 0xfd, 0xff}, 2, api.ErrShort)
	askNo(t, []byte{1, 2, 0, 0xfd, 0xff, 'a'}, 2, api.ErrShort)
	// What is unpacked already counts, too.
	askNo(t, new(stream).fixed(0, 'a', 256).stored(1, []byte("bc")).bytes(), 2, api.ErrLong)
}

// P6.1: each byte by the fixed code; what has no meaning there, as a length and as a distance.
func TestFixed(t *testing.T) {
	var all []byte
	s := new(stream).fixed(1)
	for c := range 256 {
		all = append(all, byte(c))
		s.syms(c)
		askWhole(t, new(stream).fixed(1, c, 256), []byte{byte(c)})
	}
	askWhole(t, s.syms(256), all)
	for _, sym := range []int{286, 287} {
		for _, limit := range []int{0, 1, 1000} {
			askNo(t, new(stream).fixed(1, sym).bytes(), limit, api.ErrSymbol)
		}
		askNo(t, new(stream).fixed(1, 'a', sym).word(5, 0).bytes(), 1, api.ErrSymbol)
	}
	for _, sym := range []int{30, 31} {
		for _, limit := range []int{1, 1000} {
			askNo(t, new(stream).fixed(1, 'a', 257).word(5, sym).bytes(), limit, api.ErrSymbol)
			askNo(t, new(stream).fixed(1, 'a', 257).word(5, sym).num(13, 0).syms(256).bytes(), limit, api.ErrSymbol)
		}
	}
}

// P6.1: each length, by each symbol and all its further bits.
func TestLengths(t *testing.T) {
	text := []byte("abcdefg")
	for i, base := range lengthBase {
		for more := range 1 << lengthMore[i] {
			s := new(stream).fixed(1, 'a', 'b', 'c', 'd', 'e', 'f', 'g', 257+i).num(lengthMore[i], more)
			// The distance 6: the symbol 4, and a bit that is 1.
			askWhole(t, s.word(5, 4).num(1, 1).syms(256), grown(text, base+more, 6))
		}
	}
	// 258 has two symbols.
	long := same(259, 'a')
	askWhole(t, new(stream).fixed(1, 'a', 284).num(5, 31).word(5, 0).syms(256), long)
	askWhole(t, new(stream).fixed(1, 'a', 285).word(5, 0).syms(256), long)
	for _, n := range []int{10, 11, 12, 13, 18, 19, 226, 227, 257, 258} {
		askWhole(t, new(stream).fixed(1, 'a').copied(n, 1).syms(256), same(n+1, 'a'))
	}
}

// P6.1: distances at both ends of what each symbol and each further bit tells.
func TestDistances(t *testing.T) {
	c := chance(7)
	text := c.some(32765)
	for j, base := range distanceBase {
		tries := []int{base, base + 1<<distanceMore[j] - 1, base + c.below(1<<distanceMore[j])}
		for k := range distanceMore[j] {
			tries = append(tries, base+1<<k)
		}
		for _, back := range tries {
			if back > len(text) {
				continue
			}
			s := new(stream).stored(0, text).fixed(1).copied(3, back).syms(256)
			askAll(t, s.bytes(), api.MaxEntry, grown(text, 3, back), len(s.bytes()))
			s = new(stream).stored(0, text[:back]).fixed(1).copied(3, back).syms(256)
			askAll(t, s.bytes(), api.MaxEntry, grown(text[:back], 3, back), len(s.bytes()))
			askNo(t, new(stream).stored(0, text[:back-1]).fixed(1).copied(3, back).syms(256).bytes(), api.MaxEntry, api.ErrFar)
		}
	}
}

// P6.1: the greatest distances, of which some reach as far back as anything may stand.
func TestGreatestDistances(t *testing.T) {
	c := chance(8)
	text := c.some(32768)
	for back := 32760; back <= 32768; back++ {
		for have := 32759; have <= 32768; have++ {
			b := new(stream).stored(0, text[:have]).fixed(1).copied(3, back).syms(256).bytes()
			switch {
			case back > have:
				askNo(t, b, api.MaxEntry, api.ErrFar)
			case have+3 > api.MaxEntry:
				askNo(t, b, api.MaxEntry, api.ErrLong)
			default:
				askAll(t, b, api.MaxEntry, grown(text[:have], 3, back), len(b))
			}
		}
	}
}

// P6.1: copies that overlap what they make, and others that just don't.
func TestOverlap(t *testing.T) {
	text := []byte("0123456789")
	for back := 1; back <= 10; back++ {
		for size := 3; size <= 40; size++ {
			askWhole(t, new(stream).stored(0, text).fixed(1).copied(size, back).syms(256), grown(text, size, back))
		}
		askWhole(t, new(stream).stored(0, text).fixed(1).copied(258, back).copied(257, 100+back).syms('x', 256), append(grown(grown(text, 258, back), 257, 100+back), 'x'))
	}
}

// P6.1: a distance above what is unpacked; that is asked ahead of the limit, and the symbol ahead of it.
func TestFar(t *testing.T) {
	for have := range 8 {
		text := []byte("0123456")[:have]
		for back := 1; back <= 20; back++ {
			b := new(stream).stored(0, text).fixed(1).copied(5, back).syms(256).bytes()
			for limit := have; limit < have+8; limit++ {
				switch {
				case back > have:
					askNo(t, b, limit, api.ErrFar)
				case limit < have+5:
					askNo(t, b, limit, api.ErrLong)
				default:
					askAll(t, b, limit, grown(text, 5, back), len(b))
				}
			}
		}
	}
	// A copy's distance counts from what all blocks have unpacked.
	askWhole(t, new(stream).fixed(0, 'a', 'b', 256).stored(0, []byte("cd")).fixed(1).copied(4, 4).syms(256), []byte("abcdabcd"))
	askNo(t, new(stream).fixed(0, 'a', 'b', 256).stored(0, []byte("cd")).fixed(1).copied(4, 5).syms(256).bytes(), 99, api.ErrFar)
}

// P6.1: a limit that is met exactly is none; behind it only what makes nothing may follow.
func TestLimitMet(t *testing.T) {
	askAll(t, new(stream).fixed(1, 'a', 256).bytes(), 1, []byte("a"), 3)
	askNo(t, new(stream).fixed(1, 'a', 'b', 256).bytes(), 1, api.ErrLong)
	askNo(t, new(stream).fixed(1, 'a', 'b', 256).bytes(), 0, api.ErrLong)
	// The first that is met: the byte, not what is behind it.
	askNo(t, new(stream).fixed(1, 'a', 'b', 286).bytes(), 1, api.ErrLong)
	askNo(t, new(stream).fixed(1, 'a', 286, 'b').bytes(), 1, api.ErrSymbol)
	askNo(t, new(stream).fixed(1, 'a', 'b').bytes(), 1, api.ErrLong)
	askNo(t, new(stream).fixed(1, 'a', 'b', 257).word(5, 30).bytes(), 1, api.ErrLong)
	askNo(t, new(stream).fixed(1, 'a', 257).word(5, 30).bytes(), 1, api.ErrSymbol)
	askNo(t, new(stream).fixed(0, 'a', 256).num(3, 7).bytes(), 0, api.ErrLong)
	s := new(stream).fixed(0, 'a', 256)
	for range 5 {
		s.fixed(0, 256).stored(0, nil)
	}
	askWhole(t, s.stored(1, nil), []byte("a"))
	// Far more than the limit, in few bytes.
	s = new(stream).fixed(1, 'a')
	for range 20000 {
		s.copied(258, 1)
	}
	for _, limit := range []int{0, 1, 2, 1000, api.MaxEntry} {
		askNo(t, s.bytes(), limit, api.ErrLong)
	}
	s = new(stream).fixed(1, 'a')
	for range 127 {
		s.copied(258, 1)
	}
	askWhole(t, s.syms('b').syms(256), append(same(1+127*258, 'a'), 'b'))
	s = new(stream).fixed(1, 'a', 'a')
	for range 127 {
		s.copied(258, 1)
	}
	askAll(t, s.syms(256).bytes(), api.MaxEntry, same(32768, 'a'), len(s.bytes()))
}

// P6.1: bits that end within a length's or a distance's further bits.
func TestFurtherBitsThatEnd(t *testing.T) {
	for n := range 8 {
		text := same(n, 'a')
		for j := range distanceBase {
			s := new(stream).fixed(1)
			for range text {
				s.syms('a')
			}
			whole := new(stream)
			whole.WriteString(s.String())
			whole.syms(284).num(5, 9).word(5, j).num(distanceMore[j], 0)
			b := whole.bytes()
			for cut := (s.Len() + 7) / 8; 8*cut < whole.Len(); cut++ {
				askNo(t, b[:cut], 999, api.ErrShort)
			}
		}
	}
}

// P6.1: how many lengths may be told.
func TestCounts(t *testing.T) {
	for literals := 257; literals <= 288; literals++ {
		for distances := 1; distances <= 32; distances++ {
			lengths := make([]int, literals)
			lengths['a'], lengths[256] = 1, 1
			s := new(stream).block(1, lengths, make([]int, distances)).by(lengths, 'a', 'a', 256)
			if literals > 286 || distances > 30 {
				askNo(t, s.bytes(), 2, api.ErrPrefix)
				askNo(t, s.bytes()[:3], 2, api.ErrPrefix)
				askNo(t, s.bytes()[:2], 2, api.ErrShort)
			} else {
				askAll(t, s.bytes(), 2, []byte("aa"), len(s.bytes()))
				askNo(t, s.bytes()[:3], 2, api.ErrShort)
			}
		}
	}
}

// P6.1: as few lengths of the code of lengths as can be are told, the others are 0.
func TestFewLengthsOfLengths(t *testing.T) {
	// Of 16, 17, 18 and 0 alone come but noughts: nothing ends the block.
	s := new(stream).counts(1, 257, 1, 4).num(3, 0).num(3, 0).num(3, 1).num(3, 1)
	askNo(t, s.num(1, 1).num(7, 127).num(1, 1).num(7, 109).bytes(), 9, api.ErrPrefix)
	// With 8, the fifth one: the words of 16, 0 and 8 are 0, 10 and 11. The symbols 1 to 256 have 8 bits each.
	s = new(stream).counts(1, 257, 1, 5).num(3, 1).num(3, 0).num(3, 0).num(3, 2).num(3, 2)
	s.word(2, 2).word(2, 3)
	for range 42 {
		s.word(1, 0).num(2, 3)
	}
	s.word(1, 0).num(2, 0).word(2, 2)
	var want []byte
	for c := 1; c < 256; c++ {
		s.word(8, c-1)
		want = append(want, byte(c))
	}
	askWhole(t, s.word(8, 255), want)
}

// P6.1: lengths of the code of lengths that are no full code: no lone one may stand there.
func TestNoCodeOfLengths(t *testing.T) {
	for _, x := range []struct {
		lengths []int
		want    api.Errno
	}{
		{[]int{0, 0, 0, 0}, api.ErrPrefix},
		{[]int{0, 0, 0, 1}, api.ErrPrefix},
		{[]int{1, 0, 0, 0}, api.ErrPrefix},
		{[]int{2, 2, 2, 0}, api.ErrPrefix},
		{[]int{1, 1, 1, 0}, api.ErrPrefix},
		{[]int{1, 2, 3, 4}, api.ErrPrefix},
		{[]int{7, 7, 7, 7}, api.ErrPrefix},
		// These are codes: by the first one noughts are told till the bits end, by the others 16 with nothing ahead.
		{[]int{0, 0, 1, 1}, api.ErrShort},
		{[]int{1, 2, 3, 3}, api.ErrSymbol},
		{[]int{1, 2, 3, 4, 5, 6, 7, 7}, api.ErrSymbol},
	} {
		s := new(stream).counts(1, 257, 1, len(x.lengths))
		for _, n := range x.lengths {
			s.num(3, n)
		}
		// A bit of the last length is cut off.
		askNo(t, s.bytes()[:(s.Len()-1)/8], 9, api.ErrShort)
		askNo(t, s.num(16, 0).bytes(), 9, x.want)
	}
}

// P6.1: each number of noughts that 17 and 18 stand for: the symbol behind them is told next.
func TestNoughts(t *testing.T) {
	for n := 3; n <= 138; n++ {
		r := run{17, n}
		if n > 10 {
			r.sym = 18
		}
		s := new(stream).told(1, 257, 1)
		lengths := s.runs(r, run{1, 1}, run{0, 255 - n}, run{1, 1}, run{0, 1})
		askWhole(t, s.by(lengths[:257], n, n, 256), []byte{byte(n), byte(n)})
	}
}

// P6.1: each number of times that 16 stands for, behind a length, behind itself, and behind 17 and 18.
func TestAgain(t *testing.T) {
	for n := 3; n <= 6; n++ {
		for _, ahead := range [][]run{{{4, 1}}, {{4, 2}}, {{4, 1}, {16, 3}}, {{4, 1}, {16, 4}, {16, 3}}} {
			var count int
			for _, r := range ahead {
				count += r.times
			}
			count += n
			s := new(stream).told(1, 257, 1)
			// As many words of four bits more as make the code full.
			lengths := s.runs(slices.Concat(ahead, []run{{16, n}, {0, 100}, {4, 15 - count}, {0, 141}, {4, 1}, {0, 1}})...)
			var want []byte
			for sym, l := range lengths[:256] {
				if l > 0 {
					s.by(lengths[:257], sym)
					want = append(want, byte(sym))
				}
			}
			askWhole(t, s.by(lengths[:257], 256), want)
		}
		for _, ahead := range []run{{0, 1}, {17, 3}, {17, 10}, {18, 11}, {18, 138}} {
			s := new(stream).told(1, 257, 1)
			lengths := s.runs(ahead, run{16, n}, run{1, 1}, run{0, 255 - n - ahead.times}, run{1, 1}, run{0, 1})
			sym := ahead.times + n
			askWhole(t, s.by(lengths[:257], sym, 256), []byte{byte(sym)})
		}
	}
}

// P6.1: the lengths of both codes stand in one row: what is repeated goes on from the one to the other.
func TestOneRow(t *testing.T) {
	s := new(stream).told(1, 259, 8)
	lengths := s.runs(run{18, 97}, run{3, 1}, run{16, 4}, run{18, 138}, run{18, 16}, run{3, 1}, run{16, 3}, run{16, 4}, run{16, 3})
	literals, distances := lengths[:259], lengths[259:]
	s.by(literals, 'a', 'b', 'c', 'd', 'e', 257).by(distances, 4).num(1, 0).by(literals, 258).by(distances, 7).num(2, 0).num(0, 0)
	// The symbol 7 has two further bits: 13 and on, which is as far back as there is nothing.
	askNo(t, s.bytes(), 99, api.ErrFar)

	s = new(stream).told(1, 259, 8)
	s.runs(run{18, 97}, run{3, 1}, run{16, 4}, run{18, 138}, run{18, 16}, run{3, 1}, run{16, 3}, run{16, 4}, run{16, 3})
	s.by(literals, 'a', 'b', 'c', 'd', 'e', 257).by(distances, 4).num(1, 0).by(literals, 258).by(distances, 5).num(1, 1).by(literals, 256)
	askWhole(t, s, []byte("abcdeabcabcd"))

	s = new(stream).told(1, 257, 30)
	lengths = s.runs(run{0, 97}, run{1, 1}, run{18, 138}, run{0, 20}, run{1, 1}, run{18, 30})
	askWhole(t, s.by(lengths[:257], 'a', 256), []byte("a"))

	// Noughts that reach over the end of the block's symbol leave it without a word.
	s = new(stream).told(1, 257, 30)
	lengths = s.runs(run{0, 97}, run{1, 1}, run{1, 1}, run{18, 138}, run{18, 50})
	askNo(t, s.by(lengths[:257], 'a', 'b').num(8, 0).bytes(), 9, api.ErrPrefix)
}

// P6.1: lengths that fill the row, and just one more, by each number of each symbol; the number is read first.
func TestTooManyLengths(t *testing.T) {
	cuts := 0
	for _, x := range []struct{ sym, least, most, width int }{{16, 3, 6, 2}, {17, 3, 10, 3}, {18, 11, 138, 7}} {
		for n := x.least; n <= x.most; n++ {
			// 30 distances' lengths end the row.
			for ahead := max(29-n, 0); ahead <= max(31-n, 0); ahead++ {
				head := []run{{0, 97}, {1, 1}, {0, 158}, {1, 1}, {0, ahead}}
				s := new(stream).told(1, 257, 30)
				lengths := s.runs(slices.Concat(head, []run{{x.sym, n}, {0, max(30-ahead-n, 0)}})...)
				b := s.by(lengths[:257], 'a', 256).bytes()
				if ahead+n <= 30 {
					askAll(t, b, 1, []byte("a"), len(b))
					continue
				}
				askNo(t, b, 1, api.ErrSymbol)
				s = new(stream).told(1, 257, 30)
				s.runs(head...)
				if cut := (s.lengthSym(x.sym).Len() + 7) / 8; 8*cut < s.Len()+x.width {
					askNo(t, b[:cut], 1, api.ErrShort)
					cuts++
				}
			}
		}
	}
	if cuts < 10 {
		t.Error("of what was too much only", cuts, "were cut off")
	}
	// 16 may be too much with a length that isn't 0, too.
	s := new(stream).told(1, 257, 2)
	s.runs(run{0, 256}, run{1, 1}, run{16, 3})
	askNo(t, s.num(16, 0).bytes(), 1, api.ErrSymbol)
}

// P6.1: a repeat with nothing ahead; that is asked ahead of its two bits.
func TestNothingToRepeat(t *testing.T) {
	s := new(stream).told(1, 257, 30).lengthSym(16)
	for n := range 4 {
		other := new(stream)
		other.WriteString(s.String())
		askNo(t, other.num(2, n).num(16, 0).bytes(), 9, api.ErrSymbol)
	}
	b := s.bytes()
	if 8*len(b) != s.Len()+1 {
		t.Fatal("more than one bit is left of", s.Len())
	}
	askNo(t, b, 9, api.ErrSymbol)
	askNo(t, b[:len(b)-1], 9, api.ErrShort)
}

// P6.1: a told literal code that is none, or that can't end a block.
func TestNoLiteralCode(t *testing.T) {
	for _, x := range []struct {
		lengths map[int]int
		want    api.Errno
	}{
		{map[int]int{}, api.ErrPrefix},
		{map[int]int{'a': 1, 'b': 1}, api.ErrPrefix},
		{map[int]int{'a': 1, 257: 1}, api.ErrPrefix},
		// No lone one may stand there, nor any that isn't full.
		{map[int]int{256: 1}, api.ErrPrefix},
		{map[int]int{256: 2}, api.ErrPrefix},
		{map[int]int{'a': 1, 256: 2}, api.ErrPrefix},
		{map[int]int{'a': 1, 'b': 1, 256: 1}, api.ErrPrefix},
		{map[int]int{'a': 15, 256: 15}, api.ErrPrefix},
		{map[int]int{'a': 1, 256: 1}, api.OK},
		{map[int]int{256: 1, 285: 1}, api.OK},
		{map[int]int{'a': 1, 'b': 2, 256: 2}, api.OK},
	} {
		literals := make([]int, 286)
		for sym, n := range x.lengths {
			literals[sym] = n
		}
		for _, distances := range [][]int{{0}, {1}, {0, 1, 0}, {1, 1}} {
			s := new(stream).block(1, literals, distances).by(literals, 256)
			if x.want == api.OK {
				askWhole(t, s, nil)
			} else {
				askNo(t, s.num(16, 0).bytes(), 9, x.want)
			}
		}
	}
}

// P6.1: told distance codes: none that isn't full may stand there, but a lone one.
func TestDistanceCode(t *testing.T) {
	literals := few(260, 'a', 256, 257, 259)
	for _, x := range []struct {
		lengths []int
		want    api.Errno
	}{
		{[]int{0}, api.OK}, {make([]int, 30), api.OK}, {[]int{1}, api.OK}, {[]int{0, 0, 1, 0}, api.OK},
		{[]int{1, 1}, api.OK}, {[]int{1, 0, 2, 2}, api.OK}, {slices.Repeat([]int{5}, 30), api.ErrPrefix},
		{[]int{2}, api.ErrPrefix}, {[]int{0, 15}, api.ErrPrefix}, {[]int{2, 2}, api.ErrPrefix}, {[]int{1, 2}, api.ErrPrefix},
		{[]int{1, 1, 1}, api.ErrPrefix}, {[]int{1, 1, 15}, api.ErrPrefix},
	} {
		s := new(stream).block(1, literals, x.lengths).by(literals, 'a', 256)
		if x.want == api.OK {
			askWhole(t, s, []byte("a"))
		} else {
			askNo(t, s.bytes(), 9, x.want)
			askNo(t, s.num(16, 0).bytes(), 0, x.want)
		}
	}
}

// P6.1: by a distance code without words nothing is read, be there bits or not; by a lone one the bit 0 alone.
func TestLoneDistance(t *testing.T) {
	literals := make([]int, 258)
	literals['a'], literals[256], literals[257] = 1, 2, 2
	ends := 0
	for n := 1; n <= 8; n++ {
		text := same(n, 'a')
		begin := func(distances ...int) *stream {
			s := new(stream).block(1, literals, distances)
			for range n {
				s.by(literals, 'a')
			}
			return s.by(literals, 257)
		}
		askNo(t, begin(0).bytes(), 99, api.ErrSymbol)
		askNo(t, begin(0, 0, 0).num(16, 0).bytes(), 99, api.ErrSymbol)
		askNo(t, begin(0).bytes(), n, api.ErrSymbol)
		if s := begin(1); s.Len()%8 == 0 {
			askNo(t, s.bytes(), 99, api.ErrShort)
			askNo(t, begin(0).bytes(), 99, api.ErrSymbol)
			ends++
		}
		askWhole(t, begin(1).num(1, 0).by(literals, 256), grown(text, 3, 1))
		askNo(t, begin(1).num(1, 1).by(literals, 256).bytes(), 99, api.ErrSymbol)
		askNo(t, begin(1).num(1, 1).bytes(), n, api.ErrSymbol)
		if n >= 3 {
			askWhole(t, begin(0, 0, 1).num(1, 0).by(literals, 256), grown(text, 3, 3))
		} else {
			askNo(t, begin(0, 0, 1).num(1, 0).by(literals, 256).bytes(), 99, api.ErrFar)
		}
	}
	if ends != 1 {
		t.Error("of a lone code the bits ended", ends, "times at a byte's end")
	}
}

// P6.1: a length's further bits are read ahead of its distance: where they end there is no asking whether a distance can be told.
func TestFurtherBitsAheadOfDistance(t *testing.T) {
	literals := make([]int, 285)
	literals['a'], literals[256], literals[284] = 1, 2, 2
	cuts := 0
	for n := range 8 {
		for _, distances := range [][]int{{0}, {1}} {
			s := new(stream).block(1, literals, distances)
			for range n {
				s.by(literals, 'a')
			}
			s.by(literals, 284)
			if left := -s.Len() & 7; left < 5 {
				askNo(t, s.align(1).bytes(), 999, api.ErrShort)
				cuts++
			}
			askNo(t, s.num(8, 255).bytes(), 999, api.ErrSymbol)
		}
	}
	if cuts == 0 {
		t.Error("nothing was cut off")
	}
}

// P6.1: a told code's copies: all lengths' and distances' symbols, with all further bits 0 and all 1.
func TestToldCopies(t *testing.T) {
	literals := make([]int, 286)
	for sym := 256; sym < 286; sym++ {
		literals[sym] = 5
	}
	literals['a'], literals['b'] = 5, 5
	distances := slices.Repeat([]int{5}, 30)
	distances[0], distances[1] = 4, 4
	c := chance(5)
	text := c.some(28000)
	for i, size := range lengthBase {
		for j, back := range distanceBase {
			if back > 28000 {
				continue
			}
			for one := range 2 {
				n, far := one*(1<<lengthMore[i]-1), one*(1<<distanceMore[j]-1)
				if back+far > 28000 {
					continue
				}
				// Only as much text as is reached, so that it is quick.
				have := text[:back+far]
				s := new(stream).stored(0, have).block(1, literals, distances)
				s.by(literals, 257+i).num(lengthMore[i], n).by(distances, j).num(distanceMore[j], far).by(literals, 256)
				askAll(t, s.bytes(), api.MaxEntry, grown(have, size+n, back+far), len(s.bytes()))
			}
		}
	}
}

// P6.1: blocks of all kinds, one behind another, also behind blocks of nothing.
func TestBlocks(t *testing.T) {
	literals := few(258, 'x', 'y', 256, 257)
	told := func(s *stream, last int) {
		s.block(last, literals, []int{0, 0, 0, 1}).by(literals, 'x', 'y', 257).num(1, 0).by(literals, 256)
	}
	want := []byte("ab")
	grow := func(text string) {
		want = append(want, text...)
		want = grown(append(want, "xy"...), 3, 4)
	}
	s := new(stream).fixed(0, 'a', 'b', 256)
	told(s, 0)
	grow("")
	s.stored(0, []byte("cd")).fixed(0, 256).stored(0, nil)
	told(s, 0)
	grow("cd")
	s.fixed(0, 'e', 256)
	told(s, 1)
	grow("e")
	askWhole(t, s, want)
	askWhole(t, new(stream).stored(0, nil).fixed(0, 256).stored(0, nil).fixed(1, 256), nil)

	// A block that isn't the last is no end.
	alone := new(stream).stored(0, []byte("ab"))
	askNo(t, alone.bytes(), 99, api.ErrShort)
	told(alone, 0)
	askNo(t, alone.bytes(), 99, api.ErrShort)
	askNo(t, new(stream).fixed(0, 'a', 256).bytes(), 99, api.ErrShort)
}

// samples are streams of all kinds, and what they unpack to.
func samples(t *testing.T) (all, unpacked [][]byte) {
	t.Helper()
	for seed := range 25 {
		c := chance(seed + 5000)
		s, have := chanceStream(&c)
		b := s.bytes()
		want, used, e := modelled(b, api.MaxEntry)
		if e != api.OK || len(want) != have || used != len(b) {
			t.Fatalf("seed %d: %d of %d bytes, %d of %d, %d", seed, len(want), have, used, len(b), e)
		}
		all, unpacked = append(all, b), append(unpacked, want)
	}
	for _, b := range [][]byte{{0x01, 0x02, 0x00, 0xfd, 0xff, 0x61, 0x62}, {0x03, 0x00}, {0x4b, 0x04, 0x00}, {0x01, 0x00, 0x00, 0xff, 0xff}} {
		want, _, _ := modelled(b, 2)
		all, unpacked = append(all, b), append(unpacked, want)
	}
	return all, unpacked
}

// P6.2: what is cut off, at any place, is ErrShort.
func TestCutOff(t *testing.T) {
	all, texts := samples(t)
	for i, b := range all {
		for n := range b {
			askNo(t, b[:n], api.MaxEntry, api.ErrShort)
			askNo(t, b[:n], len(texts[i]), api.ErrShort)
		}
	}
}

// P6.2: what is behind the last block changes nothing, neither bytes nor the bits of the last one that are left.
func TestBehind(t *testing.T) {
	all, texts := samples(t)
	var c chance
	for i, b := range all {
		for _, behind := range [][]byte{{0}, {7}, {0xff, 0xff}, c.some(1 + c.below(40)), b} {
			askAll(t, append(slices.Clone(b), behind...), len(texts[i]), texts[i], len(b))
		}
	}
	// Of the last byte only a part is taken, of each size.
	for n := range 9 {
		for bit := range byte(2) {
			s := new(stream)
			for range n {
				s.fixed(0, 256)
			}
			s.fixed(1, 'a', 256)
			used := (s.Len() + 7) / 8
			s.align(bit)
			askAll(t, s.bytes(), 1, []byte("a"), used)
			askAll(t, s.num(8, 7).bytes(), 1, []byte("a"), used)
		}
	}
}

// P6.3: below what is unpacked the limit is passed, from there on each answers the same.
func TestGreaterLimits(t *testing.T) {
	all, texts := samples(t)
	for i, b := range all {
		size := len(texts[i])
		for limit := max(size-300, 0); limit < size; limit++ {
			askNo(t, b, limit, api.ErrLong)
		}
		for _, limit := range []int{0, 1, 2, 3, size / 3, size / 2} {
			if limit < size {
				askNo(t, b, limit, api.ErrLong)
			}
		}
		for limit := size; limit < size+5; limit++ {
			askAll(t, b, limit, texts[i], len(b))
		}
		askAll(t, b, api.MaxEntry, texts[i], len(b))
	}
}

// spoilt is a stream with some bits changed, or cut off, or with others behind it.
func spoilt(c *chance, b []byte) []byte {
	b = slices.Clone(b)
	for range c.below(4) {
		b[c.below(len(b))] ^= 1 << c.below(8)
	}
	switch c.below(8) {
	case 0:
		b = b[:c.below(len(b)+1)]
	case 1:
		b = append(b, c.some(c.below(9))...)
	case 2:
		copy(b[c.below(len(b)):], c.some(c.below(4)))
	}
	return b
}

// P6.1, P6.3: what is spoilt answers as the model does, with each limit; and with greater limits the same, but for ErrLong.
func TestSpoilt(t *testing.T) {
	met := map[api.Errno]int{}
	for seed := range 1500 {
		c := chance(seed)
		s, have := chanceStream(&c)
		b := spoilt(&c, s.bytes())
		was := api.ErrLong
		var text []byte
		for _, limit := range []int{c.below(have + 1), max(have-1, 0), have, have + 1 + c.below(500), api.MaxEntry} {
			want, wantUsed, wantE := modelled(b, min(limit, api.MaxEntry))
			out, used, e := All(b, min(limit, api.MaxEntry))
			if !bytes.Equal(out, want) || used != wantUsed || e != wantE {
				t.Fatalf("seed %d, limit %d: %d bytes, %d, %d, not %d bytes, %d, %d", seed, limit, len(out), used, e, len(want), wantUsed, wantE)
			}
			if len(out) > limit {
				t.Fatalf("seed %d: %d bytes with the limit %d", seed, len(out), limit)
			}
			if limit == have && was != api.ErrLong && (e != was || !bytes.Equal(out, text)) {
				t.Fatalf("seed %d: with the limit %d it was %d, with %d it is %d", seed, have-1, was, have, e)
			}
			if limit == have-1 {
				was, text = e, out
			}
			met[e]++
		}
	}
	for e := range api.ErrLong + 1 {
		if e != api.ErrArg && met[e] < 5 {
			t.Errorf("the error %d was met %d times only", e, met[e])
		}
	}
}

// P6.1: bytes of chance, and all of up to two bytes.
func TestAnyBytes(t *testing.T) {
	ask := func(b []byte, limit int) {
		want, wantUsed, wantE := modelled(b, limit)
		out, used, e := All(b, limit)
		if !bytes.Equal(out, want) || used != wantUsed || e != wantE {
			t.Fatalf("All(% x, %d) = % x, %d, %d, not % x, %d, %d", b, limit, out, used, e, want, wantUsed, wantE)
		}
	}
	for seed := range 2000 {
		c := chance(seed)
		ask(c.some(c.below(60)), c.below(100))
	}
	for x := range 256 {
		ask([]byte{byte(x)}, 5)
		for y := range 256 {
			ask([]byte{byte(x), byte(y)}, 5)
		}
	}
}

// texts are bytes of many kinds.
func texts() [][]byte {
	c := chance(9)
	var prose strings.Builder
	for prose.Len() < 32000 {
		prose.WriteString([]string{"an archive ", "that nobody ", "trusts, ", "unpacked\n", "0123456789"}[c.below(5)])
	}
	repeats := c.some(32768)
	for i := range repeats {
		repeats[i] = "aab"[repeats[i]%3]
	}
	return [][]byte{nil, []byte("a"), []byte("aaaaaaaaaaaaaaaa"), []byte(prose.String()), []byte(prose.String()[:700]), repeats, same(32768, 0), same(258, 'x'), c.some(32768), c.some(100), repeats[:5000]}
}

// P6.1: what others squeeze, at all levels, in one go and in pieces.
func TestWhatOthersSqueeze(t *testing.T) {
	for _, text := range texts() {
		for level := flate.HuffmanOnly; level <= flate.BestCompression; level++ {
			for _, piece := range []int{len(text) + 1, len(text)/5 + 1} {
				var b bytes.Buffer
				w, err := flate.NewWriter(&b, level)
				if err != nil {
					t.Fatal(err)
				}
				for part := range slices.Chunk(text, piece) {
					w.Write(part)
					if piece <= len(text) {
						w.Flush()
					}
				}
				w.Close()
				askAll(t, b.Bytes(), len(text), text, b.Len())
			}
		}
	}
}

// P6.1: what is accepted others unpack to the same.
func TestWhatOthersUnpack(t *testing.T) {
	accepted := 0
	for seed := range 1000 {
		c := chance(seed + 9000)
		s, _ := chanceStream(&c)
		b := spoilt(&c, s.bytes())
		out, _, e := All(b, api.MaxEntry)
		if e != api.OK {
			continue
		}
		accepted++
		want, err := io.ReadAll(flate.NewReader(bytes.NewReader(b)))
		if err != nil || !bytes.Equal(out, want) {
			t.Errorf("seed %d: %d bytes, not %d (%v)", seed, len(out), len(want), err)
		}
	}
	if accepted < 200 {
		t.Error("only", accepted, "were accepted")
	}
}

// P6.1: what is handed in stays, what is answered is new memory, and the same is answered again.
func TestKeepsNothing(t *testing.T) {
	room := []byte{0x01, 0x02, 0x00, 0xfd, 0xff, 0x61, 0x62, 0x77, 0x78}
	b := room[:7]
	first, _, _ := All(b, 2)
	second, _, _ := All(b, 9)
	if !bytes.Equal(room, []byte{0x01, 0x02, 0x00, 0xfd, 0xff, 0x61, 0x62, 0x77, 0x78}) {
		t.Errorf("what was handed in is now % x", room)
	}
	clear(room)
	first[0] = 'z'
	_ = append(first, 'y', 'y', 'y')
	if string(first) != "zb" || string(second) != "ab" {
		t.Errorf("%q, %q", first, second)
	}
	fixed := new(stream).fixed(0, 'a', 256).fixed(1, 'b', 256).bytes()
	for range 3 {
		askAll(t, fixed, 2, []byte("ab"), len(fixed))
		askNo(t, fixed, 1, api.ErrLong)
		askNo(t, fixed[:2], 2, api.ErrShort)
	}
}
