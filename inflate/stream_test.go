package inflate

import (
	"slices"
	"strings"
)

// stream is squeezed data that is being laid: bits as noughts and ones, the first one ahead.
type stream struct{ strings.Builder }

// num lays a number of n bits, the lowest ahead.
func (s *stream) num(n, v int) *stream {
	for i := range n {
		s.WriteByte('0' + byte(v>>i&1))
	}
	return s
}

// word lays a word of n bits, the highest ahead.
func (s *stream) word(n, v int) *stream {
	s.WriteString(spelt(n, v))
	return s
}

// align lays bits, all the same, up to a byte's end.
func (s *stream) align(bit byte) *stream {
	for s.Len()%8 != 0 {
		s.WriteByte('0' + bit)
	}
	return s
}

// bytes are the bytes, noughts behind the last bit.
func (s *stream) bytes() []byte {
	b := make([]byte, (s.Len()+7)/8)
	for i, c := range s.String() {
		if c == '1' {
			b[i/8] |= 1 << (i % 8)
		}
	}
	return b
}

// stored lays a stored block.
func (s *stream) stored(last int, b []byte) *stream {
	s.num(1, last).num(2, 0).align(0).num(16, len(b)).num(16, 65535-len(b))
	for _, c := range b {
		s.num(8, int(c))
	}
	return s
}

// fixed lays what begins a fixed block, and symbols.
func (s *stream) fixed(last int, syms ...int) *stream {
	return s.num(1, last).num(2, 1).syms(syms...)
}

// syms lays symbols of the fixed literal code.
func (s *stream) syms(syms ...int) *stream {
	for _, sym := range syms {
		switch {
		case sym < 144:
			s.word(8, 0x30+sym)
		case sym < 256:
			s.word(9, 0x190+sym-144)
		case sym < 280:
			s.word(7, sym-256)
		default:
			s.word(8, 0xc0+sym-280)
		}
	}
	return s
}

// copied lays a copy by the fixed codes.
func (s *stream) copied(size, back int) *stream {
	i, j := place(lengthBase, size), place(distanceBase, back)
	return s.syms(257+i).num(lengthMore[i], size-lengthBase[i]).word(5, j).num(distanceMore[j], back-distanceBase[j])
}

// place is where the last number stands that isn't above v.
func place(rising []int, v int) int {
	i, found := slices.BinarySearch(rising, v)
	if !found {
		i--
	}
	return i
}

// counts lays what begins a told block: how many lengths there are, of n of the code of lengths.
func (s *stream) counts(last, literals, distances, n int) *stream {
	return s.num(1, last).num(2, 2).num(5, literals-257).num(5, distances-1).num(4, n-4)
}

// told lays what begins a told block, with a code of lengths in which 0 to 12 have words of four bits, 13 to 18 of five.
func (s *stream) told(last, literals, distances int) *stream {
	s.counts(last, literals, distances, 19)
	for _, sym := range lengthOrder {
		s.num(3, 4+sym/13)
	}
	return s
}

// run is a symbol by which lengths are told, and how many of them: by one that is a length itself it is laid so often.
type run struct{ sym, times int }

// runs lays lengths by the code of lengths that told has laid, and answers which they are.
func (s *stream) runs(runs ...run) []int {
	var row []int
	for _, r := range runs {
		length := r.sym
		switch r.sym {
		case 16:
			s.lengthSym(16).num(2, r.times-3)
			length = row[len(row)-1]
		case 17:
			s.lengthSym(17).num(3, r.times-3)
			length = 0
		case 18:
			s.lengthSym(18).num(7, r.times-11)
			length = 0
		default:
			for range r.times {
				s.lengthSym(r.sym)
			}
		}
		row = append(row, slices.Repeat([]int{length}, r.times)...)
	}
	return row
}

// lengthSym lays a symbol by the code of lengths that told has laid.
func (s *stream) lengthSym(sym int) *stream {
	if sym < 13 {
		return s.word(4, sym)
	}
	return s.word(5, 26+sym-13)
}

// block lays a told block's beginning up to its symbols, each length by itself.
func (s *stream) block(last int, literals, distances []int) *stream {
	s.told(last, len(literals), len(distances))
	for _, n := range slices.Concat(literals, distances) {
		s.lengthSym(n)
	}
	return s
}

// by lays symbols by the words of lengths.
func (s *stream) by(lengths []int, syms ...int) *stream {
	words := worded(lengths)
	for _, sym := range syms {
		s.WriteString(words[sym])
	}
	return s
}

// squashed are runs by which lengths may be told, some of them by symbols that stand for several.
func squashed(c *chance, row []int) []run {
	var out []run
	for at := 0; at < len(row); {
		same := 1
		for at+same < len(row) && row[at+same] == row[at] {
			same++
		}
		r := run{row[at], 1}
		switch {
		case at > 0 && row[at-1] == row[at] && same >= 3 && c.below(2) == 0:
			r = run{16, 3 + c.below(min(same, 6)-2)}
		case row[at] == 0 && same >= 11 && c.below(4) > 0:
			r = run{18, 11 + c.below(min(same, 138)-10)}
		case row[at] == 0 && same >= 3 && c.below(4) > 0:
			r = run{17, 3 + c.below(min(same, 10)-2)}
		}
		out = append(out, r)
		at += r.times
	}
	return out
}

// chanceLengths lays what begins a told block, by some code of lengths, and the runs.
func (s *stream) chanceLengths(c *chance, last, literals, distances int, runs []run) {
	var used []int
	for _, r := range runs {
		if !slices.Contains(used, r.sym) {
			used = append(used, r.sym)
		}
	}
	least := max(len(used), 2)
	lengths := c.full(least+c.below(20-least), 19, 5+c.below(3), used...)
	n := 4
	for i, sym := range lengthOrder {
		if lengths[sym] > 0 {
			n = max(n, i+1)
		}
	}
	n += c.below(20 - n)
	s.counts(last, literals, distances, n)
	for _, sym := range lengthOrder[:n] {
		s.num(3, lengths[sym])
	}
	for _, r := range runs {
		s.by(lengths, r.sym)
		switch r.sym {
		case 16:
			s.num(2, r.times-3)
		case 17:
			s.num(3, r.times-3)
		case 18:
			s.num(7, r.times-11)
		}
	}
}

// chanceDistances are the lengths of a distance code: a full one, or a lone one.
func chanceDistances(c *chance) []int {
	size := 1 + c.below(30)
	switch c.below(4) {
	case 0:
		return make([]int, size)
	case 1:
		lengths := make([]int, size)
		lengths[c.below(size)] = 1
		return lengths
	}
	size = max(size, 2)
	return c.full(2+c.below(size-1), size, 15, c.below(size))
}

// chanceTold lays a told block of codes and symbols of all kinds, behind so many bytes; it answers how many there are then.
func (s *stream) chanceTold(c *chance, last, have int) int {
	size := 257 + c.below(30)
	literals, distances := c.full(2+c.below(size-1), size, 10+c.below(6), 256), chanceDistances(c)
	s.chanceLengths(c, last, size, len(distances), squashed(c, slices.Concat(literals, distances)))
	words, backs := worded(literals), worded(distances)
	for range c.below(80) {
		sym := c.below(size)
		w, back := words[sym], c.below(30)
		if w == "" || sym == 256 {
			continue
		}
		if sym < 256 {
			s.WriteString(w)
			have++
			continue
		}
		if backs[back] == "" || distanceBase[back]+1<<distanceMore[back]-1 > have {
			continue
		}
		more := c.below(1 << lengthMore[sym-257])
		s.WriteString(w)
		s.num(lengthMore[sym-257], more).WriteString(backs[back])
		s.num(distanceMore[back], c.below(1<<distanceMore[back]))
		have += lengthBase[sym-257] + more
	}
	s.WriteString(words[256])
	return have
}

// chanceFixed lays a fixed block likewise.
func (s *stream) chanceFixed(c *chance, last, have int) int {
	s.fixed(last)
	for range c.below(40) {
		if have == 0 || c.below(3) > 0 {
			s.syms(c.below(256))
			have++
			continue
		}
		size := 3 + c.below(256)
		s.copied(size, 1+c.below(min(have, 32768)))
		have += size
	}
	s.syms(256)
	return have
}

// chanceStream is squeezed data of some blocks of all kinds, and how many bytes it has unpacked.
func chanceStream(c *chance) (*stream, int) {
	s, have, blocks := &stream{}, 0, 1+c.below(4)
	for i := range blocks {
		last := 0
		if i == blocks-1 {
			last = 1
		}
		switch c.below(4) {
		case 0:
			b := c.some(c.below(40))
			s.stored(last, b)
			have += len(b)
		case 1:
			have = s.chanceFixed(c, last, have)
		default:
			have = s.chanceTold(c, last, have)
		}
	}
	return s, have
}
