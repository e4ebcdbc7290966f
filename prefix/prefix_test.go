package prefix

import (
	"cmp"
	"math"
	"slices"
	"strings"
	"testing"

	"samovar/api"
	"samovar/bits"
)

// chance is a row of numbers without a plain rule, another one for each seed.
type chance uint32

func (c *chance) below(n int) int {
	*c = *c*1664525 + 1013904223
	return int(uint32(*c)>>8) % n
}

// full is the lengths of a full code of so many words, for symbols up to size, of at most deep bits.
func (c *chance) full(words, size, deep int) []int {
	leaves := []int{0}
	for len(leaves) < words {
		i := c.below(len(leaves))
		if leaves[i] < deep {
			leaves[i]++
			leaves = append(leaves, leaves[i])
		}
	}
	lengths := make([]int, size)
	for _, n := range leaves {
		sym := c.below(size)
		for lengths[sym] > 0 {
			sym = (sym + 1) % size
		}
		lengths[sym] = n
	}
	return lengths
}

// spelt is a number of n bits, the highest ahead, as noughts and ones.
func spelt(n, v int) string {
	var s strings.Builder
	for i := n - 1; i >= 0; i-- {
		s.WriteByte('0' + byte(v>>i&1))
	}
	return s.String()
}

// packed are bytes of noughts and ones, the first one being the lowest of the first byte.
func packed(s string) []byte {
	b := make([]byte, (len(s)+7)/8)
	for i, c := range s {
		if c == '1' {
			b[i/8] += 1 << (i % 8)
		}
	}
	return b
}

// spelled are the words of lengths by the chapter's words, spelt; and whether the lengths are full.
func spelled(lengths []int) (map[int]string, bool) {
	words := map[int]string{}
	number, sum := 0, 0.0
	for n := 1; n <= 15; n++ {
		number *= 2
		for sym, l := range lengths {
			if l == n {
				words[sym] = spelt(n, number)
				number++
				sum += math.Pow(0.5, float64(n))
			}
		}
	}
	return words, sum == 1
}

// mayBe asks whether lengths that needn't be full are a code where lone is true.
func mayBe(lengths []int) bool {
	rest := slices.DeleteFunc(slices.Clone(lengths), func(n int) bool { return n == 0 })
	return len(rest) == 0 || slices.Equal(rest, []int{1})
}

// read is what reading a symbol from spelt bits answers, and how many of them it takes.
func read(words map[int]string, row string) (sym, taken int, e api.Errno) {
	for {
		begun := false
		for s, w := range words {
			if w == row[:taken] {
				return s, taken, api.OK
			}
			begun = begun || strings.HasPrefix(w, row[:taken])
		}
		if !begun {
			return 0, taken, api.ErrSymbol
		}
		if taken == len(row) {
			return 0, taken, api.ErrShort
		}
		taken++
	}
}

func askNew(t *testing.T, lengths []int, lone bool, want api.Errno) *Code {
	t.Helper()
	c, e := New(lengths, lone)
	if e != want || (c == nil) != (want != api.OK) {
		t.Errorf("New(%d lengths %v, %v) = %v, %d, not %d", len(lengths), lengths[:min(len(lengths), 20)], lone, c, e, want)
	}
	return c
}

func askWord(t *testing.T, c *Code, sym, word, n int) {
	t.Helper()
	if w, l := c.Word(sym); w != word || l != n {
		t.Errorf("Word(%d) = %d, %d, not %d, %d", sym, w, l, word, n)
	}
}

// askNext asks for a symbol, and how many bits were passed till then.
func askNext(t *testing.T, c *Code, r *bits.Reader, sym int, want api.Errno, at int) {
	t.Helper()
	if s, e := c.Next(r); s != sym || e != want || r.At() != at {
		t.Errorf("Next = %d, %d, at %d, not %d, %d, at %d", s, e, r.At(), sym, want, at)
	}
}

// askCode asks a code all that it can be asked but rows of bits: its words are those of the model.
func askCode(t *testing.T, c *Code, lengths []int, words map[int]string) {
	t.Helper()
	for sym := -2; sym < len(lengths)+2; sym++ {
		w, n := c.Word(sym)
		if spelt(n, w) != words[sym] || w>>n != 0 {
			t.Errorf("of %v Word(%d) = %d, %d, not %q", lengths, sym, w, n, words[sym])
		}
	}
}

// P5.1: the chapter's examples.
func TestExamples(t *testing.T) {
	c := askNew(t, []int{2, 1, 3, 3}, false, api.OK)
	askWord(t, c, 0, 2, 2)
	askWord(t, c, 1, 0, 1)
	askWord(t, c, 2, 6, 3)
	askWord(t, c, 3, 7, 3)
	for _, lengths := range [][]int{{1, 1, 1}, {1, 2}, {0, 0}, nil, {}} {
		askNew(t, lengths, false, api.ErrPrefix)
	}
	askNew(t, []int{16}, false, api.ErrArg)
	askNew(t, []int{16}, true, api.ErrArg)
	c = askNew(t, []int{0, 0}, true, api.OK)
	askNext(t, c, bits.New([]byte{0, 0}), 0, api.ErrSymbol, 0)
	c = askNew(t, []int{0, 1}, true, api.OK)
	askNext(t, c, bits.New([]byte{0}), 1, api.OK, 1)
	askNext(t, c, bits.New([]byte{1}), 0, api.ErrSymbol, 1)
	c = askNew(t, nil, true, api.OK)
	askNext(t, c, bits.New(nil), 0, api.ErrSymbol, 0)
}

// P5.1: how many lengths there may be, and what each may be; that is asked ahead of whether they are a code.
func TestArguments(t *testing.T) {
	for _, lone := range []bool{false, true} {
		// 224 words of 8 bits and 64 of 9 are full.
		fit := slices.Concat(slices.Repeat([]int{8}, 224), slices.Repeat([]int{9}, 64))
		askNew(t, fit, lone, api.OK)
		askNew(t, append(fit, 0), lone, api.ErrArg)
		askNew(t, append(fit, 9), lone, api.ErrArg)
		askNew(t, make([]int, 289), lone, api.ErrArg)
		askNew(t, slices.Repeat([]int{1}, 5000), lone, api.ErrArg)
		askNew(t, slices.Repeat([]int{1}, 288), lone, api.ErrPrefix)
		for _, n := range []int{-1, 16, 17, 63, 64, 65, 256, math.MaxInt, math.MinInt} {
			askNew(t, []int{n}, lone, api.ErrArg)
			askNew(t, []int{1, 1, n}, lone, api.ErrArg)
			askNew(t, []int{n, 1, 1}, lone, api.ErrArg)
			askNew(t, []int{1, 1, 1, n}, lone, api.ErrArg)
			askNew(t, []int{1, n, 2}, lone, api.ErrArg)
		}
	}
	askNew(t, make([]int, 288), false, api.ErrPrefix)
	askNew(t, make([]int, 288), true, api.OK)
}

// P5.1: lengths that aren't full are a code just where lone is true, and there is no word, or one of one bit.
func TestLone(t *testing.T) {
	for _, x := range []struct {
		lengths     []int
		plain, lone api.Errno
	}{
		{nil, api.ErrPrefix, api.OK},
		{[]int{}, api.ErrPrefix, api.OK},
		{[]int{0}, api.ErrPrefix, api.OK},
		{make([]int, 30), api.ErrPrefix, api.OK},
		{[]int{1}, api.ErrPrefix, api.OK},
		{[]int{0, 0, 1, 0}, api.ErrPrefix, api.OK},
		{[]int{1, 1}, api.OK, api.OK},
		{[]int{0, 1, 0, 1}, api.OK, api.OK},
		{[]int{2}, api.ErrPrefix, api.ErrPrefix},
		{[]int{0, 15}, api.ErrPrefix, api.ErrPrefix},
		{[]int{2, 2}, api.ErrPrefix, api.ErrPrefix},
		{[]int{1, 2}, api.ErrPrefix, api.ErrPrefix},
		{[]int{2, 2, 2}, api.ErrPrefix, api.ErrPrefix},
		{[]int{1, 15}, api.ErrPrefix, api.ErrPrefix},
		{[]int{1, 1, 1}, api.ErrPrefix, api.ErrPrefix},
		{[]int{1, 1, 15}, api.ErrPrefix, api.ErrPrefix},
		{[]int{2, 2, 2, 2, 2}, api.ErrPrefix, api.ErrPrefix},
		{[]int{1, 1, 1, 1}, api.ErrPrefix, api.ErrPrefix},
	} {
		askNew(t, x.lengths, false, x.plain)
		askNew(t, x.lengths, true, x.lone)
	}
}

// P5.1: all lists of up to five lengths of at most four bits: their words, and what each row of bits is.
func TestSmallCodes(t *testing.T) {
	for size := range 6 {
		lists := 1
		for range size {
			lists *= 5
		}
		for k := range lists {
			lengths := make([]int, size)
			for i := range lengths {
				lengths[i] = k % 5
				k /= 5
			}
			words, full := spelled(lengths)
			for _, lone := range []bool{false, true} {
				want := api.ErrPrefix
				if full || lone && mayBe(lengths) {
					want = api.OK
				}
				c := askNew(t, lengths, lone, want)
				if want == api.OK {
					askCode(t, c, lengths, words)
					askRows(t, c, words)
				}
			}
		}
	}
}

// askRows reads a symbol of each row of eight bits, from each bit on.
func askRows(t *testing.T, c *Code, words map[int]string) {
	t.Helper()
	for v := range 256 {
		row := spelt(8, v)
		for from := range 9 {
			r := bits.New(packed(row))
			r.Take(from)
			sym, taken, e := read(words, row[from:])
			askNext(t, c, r, sym, e, from+taken)
		}
	}
}

// P5.1, P5.2: the words of the longest codes, which have the lengths 1 to 15 and 15 once more.
func TestLongestWords(t *testing.T) {
	lengths := []int{15, 14, 13, 12, 11, 10, 9, 8, 7, 6, 5, 4, 3, 2, 1, 0, 15}
	c := askNew(t, lengths, false, api.OK)
	askWord(t, c, 14, 0, 1)
	askWord(t, c, 13, 2, 2)
	askWord(t, c, 12, 6, 3)
	askWord(t, c, 1, 1<<14-2, 14)
	askWord(t, c, 0, 1<<15-2, 15)
	askWord(t, c, 16, 1<<15-1, 15)
	askWord(t, c, 15, 0, 0)
	for sym := range lengths {
		if w, n := c.Word(sym); n > 0 {
			askNext(t, c, bits.New(packed(spelt(n, w))), sym, api.OK, n)
		}
	}
	askNext(t, c, bits.New([]byte{0xff, 0x7f}), 16, api.OK, 15)
	askNext(t, c, bits.New([]byte{0xff, 0x3f}), 0, api.OK, 15)
	askNext(t, c, bits.New([]byte{0xff}), 0, api.ErrShort, 8)
	// Words of 15 bits alone need more symbols than there may be.
	askNew(t, slices.Repeat([]int{15}, 288), false, api.ErrPrefix)
	askNew(t, append(lengths, 15), false, api.ErrPrefix)
	askNew(t, append(slices.Clone(lengths[:16]), 14), false, api.ErrPrefix)
	askNew(t, lengths[:16], false, api.ErrPrefix)
}

// P5.1: RFC 1951's fixed lengths.
func TestFixedLengths(t *testing.T) {
	lengths := slices.Concat(slices.Repeat([]int{8}, 144), slices.Repeat([]int{9}, 112), slices.Repeat([]int{7}, 24), slices.Repeat([]int{8}, 8))
	c := askNew(t, lengths, false, api.OK)
	askWord(t, c, 0, 0x30, 8)
	askWord(t, c, 143, 0xbf, 8)
	askWord(t, c, 144, 0x190, 9)
	askWord(t, c, 255, 0x1ff, 9)
	askWord(t, c, 256, 0, 7)
	askWord(t, c, 279, 0x17, 7)
	askWord(t, c, 280, 0xc0, 8)
	askWord(t, c, 287, 0xc7, 8)
	askWord(t, c, 288, 0, 0)
	for sym := range 32 {
		askWord(t, askNew(t, slices.Repeat([]int{5}, 32), true, api.OK), sym, sym, 5)
	}
}

// P5.1: symbols that have no word or are none.
func TestNoWord(t *testing.T) {
	full := askNew(t, []int{0, 1, 0, 1}, false, api.OK)
	one := askNew(t, []int{0, 1}, true, api.OK)
	none := askNew(t, []int{0, 0, 0}, true, api.OK)
	for _, sym := range []int{-1, -2, 0, 2, 4, 5, 288, math.MaxInt, math.MinInt} {
		for _, c := range []*Code{full, one, none, nil, new(Code)} {
			askWord(t, c, sym, 0, 0)
		}
	}
	askWord(t, full, 1, 0, 1)
	askWord(t, full, 3, 1, 1)
	askWord(t, one, 1, 0, 1)
}

// P5.1: of a nil code or a nil reader nothing is read, and nothing passed.
func TestNextOfNothing(t *testing.T) {
	var none *Code
	r := bits.New([]byte{0, 0})
	askNext(t, none, r, 0, api.ErrArg, 0)
	askNext(t, none, nil, 0, api.ErrArg, 0)
	for _, lengths := range [][]int{{1, 1}, {0, 1}, {0}, nil} {
		askNext(t, askNew(t, lengths, true, api.OK), nil, 0, api.ErrArg, 0)
	}
	// A code that New didn't make has no words.
	askNext(t, new(Code), nil, 0, api.ErrArg, 0)
	askNext(t, new(Code), r, 0, api.ErrSymbol, 0)
}

// P5.1: bits that end at each place within a word are all taken; behind them nothing is.
func TestBitsThatEnd(t *testing.T) {
	c := askNew(t, []int{15, 14, 13, 12, 11, 10, 9, 8, 7, 6, 5, 4, 3, 2, 1, 15}, false, api.OK)
	b := []byte{0xff, 0xff}
	for from := 2; from <= 16; from++ {
		r := bits.New(b)
		r.Take(from)
		askNext(t, c, r, 0, api.ErrShort, 16)
		askNext(t, c, r, 0, api.ErrShort, 16)
	}
	one := askNew(t, []int{0, 1}, true, api.OK)
	askNext(t, one, bits.New(nil), 0, api.ErrShort, 0)
	none := askNew(t, []int{0, 0}, true, api.OK)
	r := bits.New(b)
	r.Take(16)
	askNext(t, none, r, 0, api.ErrSymbol, 16)
}

// P5.1: beside ErrSymbol, too, what was taken is passed, and the next bits are asked from there on.
func TestPassedBesideErrors(t *testing.T) {
	one := askNew(t, []int{0, 0, 1}, true, api.OK)
	r := bits.New([]byte{0x5})
	askNext(t, one, r, 0, api.ErrSymbol, 1)
	askNext(t, one, r, 2, api.OK, 2)
	askNext(t, one, r, 0, api.ErrSymbol, 3)
	askNext(t, one, r, 2, api.OK, 4)
	none := askNew(t, nil, true, api.OK)
	askNext(t, none, r, 0, api.ErrSymbol, 4)
	askNext(t, none, r, 0, api.ErrSymbol, 4)
	askNext(t, one, r, 2, api.OK, 5)
}

// P5.1: what is handed in stays, and a code doesn't hang on it any more, nor on other codes, nor on what was read by it.
func TestKeepsItsOwn(t *testing.T) {
	room := []int{2, 1, 3, 3, 7, 7}
	lengths := room[:4]
	c := askNew(t, lengths, false, api.OK)
	if !slices.Equal(room, []int{2, 1, 3, 3, 7, 7}) {
		t.Errorf("what was handed in is now %v", room)
	}
	clear(room)
	askNew(t, []int{1, 1}, false, api.OK)
	askNew(t, []int{1, 1, 1}, false, api.ErrPrefix)
	for range 3 {
		askWord(t, c, 2, 6, 3)
		askNext(t, c, bits.New([]byte{3}), 2, api.OK, 3)
		askNext(t, c, bits.New([]byte{0}), 1, api.OK, 1)
		askNext(t, c, bits.New(nil), 0, api.ErrShort, 0)
	}
}

// chanceCodes are full codes of all sizes.
func chanceCodes(t *testing.T, do func(c *chance, lengths []int, code *Code)) {
	t.Helper()
	for seed := range 150 {
		c := chance(seed)
		size := 2 + c.below(287)
		lengths := c.full(2+c.below(size-1), size, 9+c.below(7))
		code := askNew(t, lengths, seed%2 == 0, api.OK)
		do(&c, lengths, code)
		if t.Failed() {
			t.Fatal("seed", seed)
		}
	}
}

// P5.1, P5.2: words of full codes are those by the chapter's words; none is another's beginning, and of one length they rise.
func TestWords(t *testing.T) {
	chanceCodes(t, func(_ *chance, lengths []int, code *Code) {
		words, _ := spelled(lengths)
		askCode(t, code, lengths, words)
		last := map[int]int{}
		var all []string
		for sym, n := range lengths {
			w, l := code.Word(sym)
			if l != n {
				t.Errorf("Word(%d) has %d bits, not %d", sym, l, n)
			}
			if n == 0 {
				continue
			}
			if before, ok := last[n]; ok && w != before+1 {
				t.Errorf("Word(%d) = %d, behind %d", sym, w, before)
			}
			last[n] = w
			all = append(all, spelt(n, w))
		}
		// Sorted, a beginning stands right ahead of a word that goes on from it.
		slices.SortFunc(all, cmp.Compare[string])
		for i := 1; i < len(all); i++ {
			if strings.HasPrefix(all[i], all[i-1]) {
				t.Errorf("%s is the beginning of %s", all[i-1], all[i])
			}
		}
	})
}

// P5.1: a length more, or one less, is no full code any more.
func TestLengthsThatAreNotFull(t *testing.T) {
	chanceCodes(t, func(c *chance, lengths []int, _ *Code) {
		at := c.below(len(lengths))
		for was := lengths[at]; was == 0; was = lengths[at] {
			at = (at + 1) % len(lengths)
		}
		for n := range 16 {
			other := slices.Clone(lengths)
			other[at] = n
			words, full := spelled(other)
			want := api.ErrPrefix
			if full {
				want = api.OK
			}
			askNew(t, other, false, want)
			if len(words) > 1 {
				askNew(t, other, true, want)
			}
		}
	})
}

// P5.3: symbols whose words are put one behind the other are read, with other numbers between.
func TestThereAndBack(t *testing.T) {
	chanceCodes(t, func(c *chance, lengths []int, code *Code) {
		var row strings.Builder
		var syms, ends []int
		for range 400 {
			sym := c.below(len(lengths))
			w, n := code.Word(sym)
			if n == 0 {
				continue
			}
			row.WriteString(spelt(n, w))
			syms, ends = append(syms, sym), append(ends, row.Len()+5)
			row.WriteString("10110")
		}
		r := bits.New(packed(row.String()))
		for i, sym := range syms {
			askNext(t, code, r, sym, api.OK, ends[i]-5)
			if v, e := r.Take(5); v != 13 || e != api.OK {
				t.Errorf("behind the symbol %d: %d, %d", sym, v, e)
			}
		}
	})
}

// P5.3: words that a writer has put, bit by bit, are read as their symbols.
func TestPutByAWriter(t *testing.T) {
	chanceCodes(t, func(_ *chance, lengths []int, code *Code) {
		var w bits.Writer
		var syms []int
		for sym := range lengths {
			v, n := code.Word(sym)
			for i := n - 1; i >= 0; i-- {
				w.Put(1, v>>i)
			}
			if n > 0 {
				syms = append(syms, sym)
			}
		}
		r := bits.New(w.Bytes())
		for _, sym := range syms {
			_, n := code.Word(sym)
			askNext(t, code, r, sym, api.OK, r.At()+n)
		}
		if r.At() != w.Len() {
			t.Errorf("at %d of %d", r.At(), w.Len())
		}
	})
}
