package squeeze

import (
	"bytes"
	"compress/flate"
	"io"
	"slices"
	"strings"
	"testing"

	"samovar/api"
	"samovar/inflate"
)

// chance tells numbers that are always the same ones.
type chance uint32

func (c *chance) below(n int) int {
	*c = *c*1664525 + 1013904223
	return int(uint32(*c)>>8) % n
}

// some are n bytes, from the given one on, of so many kinds.
func (c *chance) some(n, from, kinds int) []byte {
	b := make([]byte, n)
	for i := range b {
		b[i] = byte(from + c.below(kinds))
	}
	return b
}

// same are n times one byte.
func same(n int, c byte) []byte { return bytes.Repeat([]byte{c}, n) }

// askAll asks for all that is promised of bytes, and answers what they are squeezed to.
func askAll(t *testing.T, b []byte) []byte {
	t.Helper()
	was := bytes.Clone(b)
	out, e := All(b)
	if e != api.OK {
		t.Fatalf("All(%d bytes) = %d", len(b), e)
	}
	if !bytes.Equal(b, was) {
		t.Errorf("All has changed %d bytes that it was given", len(b))
	}
	back, used, e := inflate.All(out, len(b))
	if !bytes.Equal(back, b) || used != len(out) || e != api.OK {
		t.Fatalf("%d bytes % x: there and back %d bytes, %d of %d taken, %d", len(b), b[:min(len(b), 40)], len(back), used, len(out), e)
	}
	if most := (9*len(b) + 17) / 8; len(out) > most {
		t.Errorf("%d bytes have become %d, above %d", len(b), len(out), most)
	}
	if again, e := All(was); !bytes.Equal(again, out) || e != api.OK {
		t.Errorf("%d bytes squeezed again are others", len(b))
	}
	return out
}

// askByOthers asks that another program unpacks what bytes are squeezed to, and leaves nothing.
func askByOthers(t *testing.T, b []byte) {
	t.Helper()
	r := bytes.NewReader(askAll(t, b))
	back, err := io.ReadAll(flate.NewReader(r))
	if !bytes.Equal(back, b) || err != nil || r.Len() != 0 {
		t.Errorf("%d bytes: unpacked to %d, %d left, %v", len(b), len(back), r.Len(), err)
	}
}

// P7.1, P7.3: the chapter's examples.
func TestExamples(t *testing.T) {
	for _, b := range [][]byte{nil, {}} {
		if out := askAll(t, b); len(out) == 0 || len(out) > 2 {
			t.Errorf("nothing has become % x", out)
		}
	}
	if out := askAll(t, make([]byte, 258)); len(out) > 12 {
		t.Errorf("258 times 0 have become % x", out)
	}
}

// P7.1: as many bytes as may be are squeezed, one more isn't.
func TestTooMany(t *testing.T) {
	var c chance
	all := c.some(api.MaxEntry, 0, 256)
	askByOthers(t, all)
	askByOthers(t, make([]byte, api.MaxEntry))
	for _, more := range []int{1, 2, 1000, api.MaxEntry} {
		for _, b := range [][]byte{make([]byte, api.MaxEntry+more), c.some(api.MaxEntry+more, 0, 256)} {
			if out, e := All(b); len(out) != 0 || e != api.ErrLong {
				t.Errorf("All(%d bytes) = %d bytes, %d", len(b), len(out), e)
			}
		}
	}
	if out, e := All(all); len(out) == 0 || e != api.OK {
		t.Errorf("behind errors: %d", e)
	}
}

// P7.1: each byte alone, and each one between others.
func TestBytes(t *testing.T) {
	var all []byte
	for c := range 256 {
		all = append(all, byte(c))
		askByOthers(t, []byte{byte(c)})
		askByOthers(t, []byte{byte(c), 0})
		askByOthers(t, []byte{byte(c), byte(c), byte(c), byte(c)})
		askByOthers(t, all)
	}
}

// P7.1: all short rows of two and of three kinds of bytes.
func TestShortRows(t *testing.T) {
	for n := range 11 {
		for v := range 1 << n {
			b := make([]byte, n)
			for i := range b {
				b[i] = 'a' + byte(v>>i&1)
			}
			askAll(t, b)
		}
	}
	for v := range 3 * 3 * 3 * 3 * 3 * 3 * 3 {
		b := make([]byte, 7)
		for i := range b {
			b[i] = byte(v%3) * 127
			v /= 3
		}
		askAll(t, b)
	}
}

// P7.1: copies of each length, with what differs behind them, with what ends there, and from within themselves.
func TestLengths(t *testing.T) {
	var c chance
	text := c.some(600, 0, 256)
	for n := range 600 {
		askByOthers(t, slices.Concat(text, text[:n]))
		askByOthers(t, slices.Concat(text, text[:n], []byte{text[n] + 1}, text[n:]))
		askByOthers(t, append(same(n, 'a'), 'b', 'a', 'a', 'a'))
	}
	for back := 1; back < 9; back++ {
		for n := range 300 {
			askAll(t, bytes.Repeat(text[:back], n/back+2)[:back+n])
		}
	}
}

// P7.1: copies from each distance that a symbol begins or ends with, and from the greatest ones.
func TestDistances(t *testing.T) {
	c := chance(7)
	// Bytes above 249 stand at the beginning and at the end alone.
	text := c.some(api.MaxEntry, 0, 200)
	var backs []int
	for k := range 15 {
		backs = append(backs, 1<<k, 1<<k+1, 1<<k+1<<k/2, 1<<k+1<<k/2+1)
	}
	backs = append(backs, api.MaxEntry-4, api.MaxEntry-3)
	for _, back := range backs {
		if back < 3 || back > api.MaxEntry-3 {
			continue
		}
		b := slices.Concat([]byte{250, 251, 252}, text[:back-3], []byte{250, 251, 252})
		askByOthers(t, b)
		plain := slices.Concat(b[:back], []byte{253, 254, 255})
		if out, than := askAll(t, b), askAll(t, plain); len(out) > len(than) {
			t.Errorf("a copy from %d bytes back takes %d, not %d", back, len(out), len(than))
		}
	}
}

// P7.1, P7.2: bytes by chance, of few and of many kinds, low and high.
func TestByChance(t *testing.T) {
	var c chance
	for i := range 1500 {
		kinds := 1 + c.below(256)
		if i%3 == 0 {
			kinds = 1 + c.below(5)
		}
		b := c.some(c.below(1<<(1+c.below(12))), c.below(256), kinds)
		if i%10 == 0 {
			askByOthers(t, b)
		} else {
			askAll(t, b)
		}
	}
	for _, kinds := range []int{1, 2, 3, 10, 256} {
		askByOthers(t, c.some(api.MaxEntry-c.below(3), 0, kinds))
	}
}

// P7.1: a text whose words come again.
func TestText(t *testing.T) {
	var c chance
	words := []string{"public ", "static ", "void ", "main", "java/lang/", "Object", "(", ")V", ";", "\n"}
	var s strings.Builder
	for s.Len() < 20000 {
		s.WriteString(words[c.below(len(words))])
	}
	askByOthers(t, []byte(s.String()))
}

// P7.2: bytes that have the longest words, none of which stands twice.
func TestLongestWords(t *testing.T) {
	var all []byte
	for c := 144; c < 256; c++ {
		all = append(all, byte(c))
		askAll(t, all)
	}
	var c chance
	for range 100 {
		askAll(t, c.some(1+c.below(3000), 144, 112))
	}
	// Copies of three bytes only, from near and from far.
	for _, far := range []int{0, 100, 3000, 20000} {
		b := c.some(far+600, 144, 112)
		for i := 0; i+3 <= 600; i += 3 {
			b = append(b, b[i:i+3]...)
			b = append(b, byte(144+i%112))
		}
		askAll(t, b)
	}
}

// P7.3: bytes that are all one, as many as may be.
func TestAllOne(t *testing.T) {
	ask := func(n int, c byte) {
		if out, e := All(same(n, c)); len(out) > 8+n/64 || e != api.OK {
			t.Errorf("%d times %d have become %d bytes, %d", n, c, len(out), e)
		}
	}
	for n := range 2000 {
		for _, c := range []byte{0, 'a', 143, 144, 255} {
			ask(n, c)
		}
	}
	for n := 2000; n <= api.MaxEntry; n += 97 {
		ask(n, byte(n))
	}
	for c := range 256 {
		ask(api.MaxEntry, byte(c))
		ask(258, byte(c))
		askAll(t, same(258*3+c%7, byte(c)))
	}
	for n := range 1100 {
		askAll(t, same(n, 'z'))
	}
}

// P7.4: bytes are squeezed to the same whatever else was squeezed, and wherever they stand; spare room counts for nothing and stays.
func TestTheSame(t *testing.T) {
	c := chance(3)
	var rows, outs [][]byte
	for range 50 {
		b := c.some(c.below(2000), 0, 1+c.below(20))
		rows, outs = append(rows, b), append(outs, askAll(t, b))
	}
	for range 20 {
		for i := range rows {
			i = len(rows) - 1 - i
			wide := slices.Concat(rows[i], []byte("spare"))
			out, e := All(wide[:len(rows[i])])
			if !bytes.Equal(out, outs[i]) || e != api.OK || string(wide[len(rows[i]):]) != "spare" {
				t.Fatalf("the row %d: others, %d", i, e)
			}
			// What was answered is the caller's.
			clear(out)
		}
	}
}
