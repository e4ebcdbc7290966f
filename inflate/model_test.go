package inflate

import (
	"slices"
	"strings"

	"samovar/api"
)

// RFC 1951's tables (3.2.5): the least length or distance of each symbol, and how many further bits it has.
var (
	lengthBase   = []int{3, 4, 5, 6, 7, 8, 9, 10, 11, 13, 15, 17, 19, 23, 27, 31, 35, 43, 51, 59, 67, 83, 99, 115, 131, 163, 195, 227, 258}
	lengthMore   = []int{0, 0, 0, 0, 0, 0, 0, 0, 1, 1, 1, 1, 2, 2, 2, 2, 3, 3, 3, 3, 4, 4, 4, 4, 5, 5, 5, 5, 0}
	distanceBase = []int{1, 2, 3, 4, 5, 7, 9, 13, 17, 25, 33, 49, 65, 97, 129, 193, 257, 385, 513, 769, 1025, 1537, 2049, 3073, 4097, 6145, 8193, 12289, 16385, 24577}
	distanceMore = []int{0, 0, 0, 0, 1, 1, 2, 2, 3, 3, 4, 4, 5, 5, 6, 6, 7, 7, 8, 8, 9, 9, 10, 10, 11, 11, 12, 12, 13, 13}
	lengthOrder  = []int{16, 17, 18, 0, 8, 7, 9, 6, 10, 5, 11, 4, 12, 3, 13, 2, 14, 1, 15}
)

// chance is a row of numbers without a plain rule, another one for each seed.
type chance uint32

func (c *chance) below(n int) int {
	*c = *c*1664525 + 1013904223
	return int(uint32(*c)>>8) % n
}

func (c *chance) some(n int) []byte {
	b := make([]byte, n)
	for i := range b {
		b[i] = byte(c.below(256))
	}
	return b
}

// full is the lengths of a full code of so many words, of at most deep bits, the first ones for the symbols of must.
func (c *chance) full(words, size, deep int, must ...int) []int {
	leaves := []int{0}
	for len(leaves) < words {
		i := c.below(len(leaves))
		if leaves[i] < deep {
			leaves[i]++
			leaves = append(leaves, leaves[i])
		}
	}
	lengths := make([]int, size)
	for i, n := range leaves {
		sym := c.below(size)
		if i < len(must) {
			sym = must[i]
		}
		for lengths[sym] > 0 {
			sym = (sym + 1) % size
		}
		lengths[sym] = n
	}
	return lengths
}

// spelt is a number of n bits, the highest ahead, as noughts and ones.
func spelt(n, v int) string {
	b := make([]byte, n)
	for i := range b {
		b[i] = '0' + byte(v>>(n-1-i)&1)
	}
	return string(b)
}

// worded are the words of lengths, spelt, by symbols.
func worded(lengths []int) map[int]string {
	words, number := map[int]string{}, 0
	for n := 1; n <= 15; n++ {
		number *= 2
		for sym, l := range lengths {
			if l == n {
				words[sym] = spelt(n, number)
				number++
			}
		}
	}
	return words
}

// code is what the model reads symbols by: those of words, and what words begin with.
type code struct {
	symbols map[string]int
	begins  map[string]bool
}

func newCode(lengths []int, lone bool) code {
	c := code{map[string]int{}, map[string]bool{}}
	room, words := 1.0, 0
	for sym, w := range worded(lengths) {
		c.symbols[w] = sym
		words++
		for i := range w {
			c.begins[w[:i]] = true
		}
		part := 1.0
		for range w {
			part /= 2
		}
		room -= part
	}
	if room != 0 && !(lone && (words == 0 || words == 1 && room == 0.5)) {
		panic(api.ErrPrefix)
	}
	return c
}

// model unpacks by the chapter's words, from bits that stand spelt; what goes wrong unwinds.
type model struct {
	row   string
	at    int
	out   []byte
	limit int
}

// modelled is what All should answer.
func modelled(b []byte, limit int) (out []byte, used int, e api.Errno) {
	if limit < 0 || limit > 32768 {
		return nil, 0, api.ErrArg
	}
	var row strings.Builder
	for _, c := range b {
		for i := range 8 {
			row.WriteByte('0' + c>>i&1)
		}
	}
	m := &model{row: row.String(), limit: limit}
	defer func() {
		if x := recover(); x != nil {
			out, used, e = nil, 0, x.(api.Errno)
		}
	}()
	for last := 0; last == 0; {
		last = m.take(1)
		switch m.take(2) {
		case 0:
			m.stored()
		case 1:
			m.fixed()
		case 2:
			m.told()
		case 3:
			panic(api.ErrBlock)
		}
	}
	return m.out, (m.at + 7) / 8, api.OK
}

// bit is the next bit, spelt.
func (m *model) bit() string {
	if m.at == len(m.row) {
		panic(api.ErrShort)
	}
	m.at++
	return m.row[m.at-1 : m.at]
}

func (m *model) take(n int) int {
	v, worth := 0, 1
	for range n {
		if m.bit() == "1" {
			v += worth
		}
		worth *= 2
	}
	return v
}

func (m *model) next(c code) int {
	w := ""
	for {
		if sym, ok := c.symbols[w]; ok {
			return sym
		}
		if !c.begins[w] {
			panic(api.ErrSymbol)
		}
		w += m.bit()
	}
}

func (m *model) stored() {
	for m.at%8 != 0 {
		m.at++
	}
	size, opposite := m.take(16), m.take(16)
	if size+opposite != 65535 {
		panic(api.ErrStored)
	}
	if size+len(m.out) > m.limit {
		panic(api.ErrLong)
	}
	for range size {
		m.out = append(m.out, byte(m.take(8)))
	}
}

// fixedLengths are those of the fixed literal code.
func fixedLengths() []int {
	lengths := make([]int, 288)
	for sym := range lengths {
		switch {
		case sym < 144:
			lengths[sym] = 8
		case sym < 256:
			lengths[sym] = 9
		case sym < 280:
			lengths[sym] = 7
		default:
			lengths[sym] = 8
		}
	}
	return lengths
}

// The fixed codes are made once: the model is slow to make one.
var (
	fixedLiteral  = newCode(fixedLengths(), false)
	fixedDistance = newCode(slices.Repeat([]int{5}, 32), false)
)

func (m *model) fixed() {
	m.symbols(fixedLiteral, fixedDistance)
}

func (m *model) told() {
	literals, distances, n := 257+m.take(5), 1+m.take(5), 4+m.take(4)
	if literals > 286 || distances > 30 {
		panic(api.ErrPrefix)
	}
	lengths := make([]int, 19)
	for _, sym := range lengthOrder[:n] {
		lengths[sym] = m.take(3)
	}
	c := newCode(lengths, false)
	var row []int
	for len(row) < literals+distances {
		row = append(row, m.some(m.next(c), row)...)
		if len(row) > literals+distances {
			panic(api.ErrSymbol)
		}
	}
	if row[256] == 0 {
		panic(api.ErrPrefix)
	}
	m.symbols(newCode(row[:literals], false), newCode(row[literals:], true))
}

// some are the lengths that a symbol behind a row of them stands for.
func (m *model) some(sym int, row []int) []int {
	switch sym {
	case 16:
		if len(row) == 0 {
			panic(api.ErrSymbol)
		}
		return slices.Repeat(row[len(row)-1:], 3+m.take(2))
	case 17:
		return make([]int, 3+m.take(3))
	case 18:
		return make([]int, 11+m.take(7))
	}
	return []int{sym}
}

func (m *model) symbols(literal, distance code) {
	for {
		sym := m.next(literal)
		if sym == 256 {
			return
		}
		if sym < 256 {
			if len(m.out) == m.limit {
				panic(api.ErrLong)
			}
			m.out = append(m.out, byte(sym))
			continue
		}
		if sym > 285 {
			panic(api.ErrSymbol)
		}
		size := lengthBase[sym-257] + m.take(lengthMore[sym-257])
		sym = m.next(distance)
		if sym > 29 {
			panic(api.ErrSymbol)
		}
		back := distanceBase[sym] + m.take(distanceMore[sym])
		if back > len(m.out) {
			panic(api.ErrFar)
		}
		if size+len(m.out) > m.limit {
			panic(api.ErrLong)
		}
		for range size {
			m.out = append(m.out, m.out[len(m.out)-back])
		}
	}
}
