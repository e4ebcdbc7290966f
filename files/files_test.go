package files

import (
	"bytes"
	"math"
	"slices"
	"strings"
	"testing"

	"samovar/api"
)

// chance tells numbers that are always the same ones.
type chance uint32

func (c *chance) below(n int) int {
	*c = *c*1664525 + 1013904223
	return int(uint32(*c)>>8) % n
}

func (c *chance) some(n int) []byte {
	b := make([]byte, n)
	for i := range b {
		b[i] = byte(c.below(256))
	}
	return b
}

func askPut(t *testing.T, f *Files, name string, data []byte, want api.Errno) {
	t.Helper()
	if e := f.Put(name, data); e != want {
		t.Errorf("Put(%q, %d bytes) = %d, not %d", name, len(data), e, want)
	}
}

func askNames(t *testing.T, f *Files, want ...string) {
	t.Helper()
	if names := f.Names(); !slices.Equal(names, want) {
		t.Errorf("Names() = %q, not %q", names, want)
	}
}

func askSize(t *testing.T, f *Files, name string, want int, wantError api.Errno) {
	t.Helper()
	if n, e := f.Size(name); n != want || e != wantError {
		t.Errorf("Size(%q) = %d, %d, not %d, %d", name, n, e, want, wantError)
	}
}

// askRead asks what is read, and that this was a read.
func askRead(t *testing.T, f *Files, name string, at, n int, want string) {
	t.Helper()
	reads := f.Reads()
	if b, e := f.Read(name, at, n); string(b) != want || e != api.OK {
		t.Errorf("Read(%q, %d, %d) = % x, %d, not % x", name, at, n, b, e, want)
	}
	askReads(t, f, reads+1)
}

// askNoRead asks for an error, and whether this was a read.
func askNoRead(t *testing.T, f *Files, name string, at, n int, want api.Errno) {
	t.Helper()
	reads := f.Reads()
	if b, e := f.Read(name, at, n); len(b) != 0 || e != want {
		t.Errorf("Read(%q, %d, %d) = % x, %d, not %d", name, at, n, b, e, want)
	}
	if want == api.ErrRead {
		reads++
	}
	askReads(t, f, reads)
}

func askReads(t *testing.T, f *Files, want int) {
	t.Helper()
	if n := f.Reads(); n != want {
		t.Errorf("Reads() = %d, not %d", n, want)
	}
}

func askFail(t *testing.T, f *Files, k int, want api.Errno) {
	t.Helper()
	if e := f.Fail(k); e != want {
		t.Errorf("Fail(%d) = %d, not %d", k, e, want)
	}
}

// one has a file a of the bytes 1 to 3.
func one(t *testing.T) *Files {
	t.Helper()
	f := New()
	askPut(t, f, "a", []byte{1, 2, 3}, api.OK)
	return f
}

// full has as many files as may be, of one byte each: their names are letters.
func full(t *testing.T) *Files {
	t.Helper()
	f := New()
	for i := range api.MaxFiles {
		askPut(t, f, string(rune('A'+i)), []byte{byte(i)}, api.OK)
	}
	return f
}

// P8.1: the chapter's examples.
func TestExamples(t *testing.T) {
	f := one(t)
	askRead(t, f, "a", 1, 2, "\x02\x03")
	askNoRead(t, f, "a", 2, 2, api.ErrShort)
	askReads(t, f, 1)
	askFail(t, f, 2, api.OK)
	askRead(t, f, "a", 1, 2, "\x02\x03")
	askNoRead(t, f, "a", 1, 2, api.ErrRead)
	askRead(t, f, "a", 1, 2, "\x02\x03")
}

// P8.1: no files, no reads at first.
func TestNothing(t *testing.T) {
	for _, f := range []*Files{New(), new(Files)} {
		askNames(t, f)
		askReads(t, f, 0)
		for _, name := range []string{"", "a", "\x00", strings.Repeat("a", 65)} {
			askSize(t, f, name, 0, api.ErrMissing)
			askNoRead(t, f, name, 0, 0, api.ErrMissing)
			askNoRead(t, f, name, 0, 1, api.ErrMissing)
		}
		askFail(t, f, 1, api.OK)
		askNames(t, f)
		askPut(t, f, "a", nil, api.OK)
		askNoRead(t, f, "a", 0, 0, api.ErrRead)
		askRead(t, f, "a", 0, 0, "")
	}
}

// P8.1: nil Files.
func TestNil(t *testing.T) {
	var f *Files
	for _, name := range []string{"a", "", "\x00", strings.Repeat("a", 65)} {
		askPut(t, f, name, nil, api.ErrArg)
		askPut(t, f, name, make([]byte, api.MaxFile+1), api.ErrArg)
		askSize(t, f, name, 0, api.ErrMissing)
		askNoRead(t, f, name, 0, 0, api.ErrMissing)
		askNoRead(t, f, name, 3, 3, api.ErrMissing)
	}
	for _, k := range []int{-1, 0, 1, 65536, 65537} {
		askFail(t, f, k, api.ErrArg)
	}
	askNames(t, f)
	askReads(t, f, 0)
}

// P8.1: which names a file may have.
func TestFileNames(t *testing.T) {
	long := strings.Repeat("n", api.MaxName)
	good := []string{"a", "/", "..", "a//b", "\\", " ", "\x01", "\xff", "\xc3\x28", "ä", long, long[1:], long[2:] + "ä"}
	f := New()
	for _, name := range good {
		askPut(t, f, name, []byte(name), api.OK)
	}
	for _, name := range good {
		askRead(t, f, name, 0, len(name), name)
	}
	for _, name := range []string{"", "\x00", "a\x00", "\x00a", "a\x00b", long + "n", long + "\x00", long[1:] + "ä", strings.Repeat("n", 1000)} {
		askPut(t, f, name, nil, api.ErrName)
		askPut(t, f, name, make([]byte, api.MaxFile+1), api.ErrName)
		askSize(t, f, name, 0, api.ErrMissing)
		askNoRead(t, f, name, 0, 0, api.ErrMissing)
	}
	slices.Sort(good)
	askNames(t, f, good...)
}

// P8.1: names are told rising byte by byte.
func TestNamesRise(t *testing.T) {
	f := New()
	for _, name := range []string{"b", "a", "ab", "B", "\xff", "a\x01", "ä", "aa", "~", "a/b"} {
		askPut(t, f, name, nil, api.OK)
	}
	want := []string{"B", "a", "a\x01", "a/b", "aa", "ab", "b", "~", "ä", "\xff"}
	askNames(t, f, want...)
	clear(f.Names())
	askNames(t, f, want...)
}

// P8.1: how many bytes a file may have.
func TestLong(t *testing.T) {
	var c chance
	all := c.some(api.MaxFile)
	f := one(t)
	askPut(t, f, "b", all, api.OK)
	askSize(t, f, "b", api.MaxFile, api.OK)
	askRead(t, f, "b", 0, api.MaxFile, string(all))
	askRead(t, f, "b", api.MaxFile-1, 1, string(all[api.MaxFile-1:]))
	for _, more := range []int{1, 2, api.MaxFile} {
		b := make([]byte, api.MaxFile+more)
		askPut(t, f, "a", b, api.ErrLong)
		askPut(t, f, "c", b, api.ErrLong)
	}
	askRead(t, f, "a", 0, 3, "\x01\x02\x03")
	askNames(t, f, "a", "b")
}

// P8.1: how many files there may be; one that is there is put again.
func TestMany(t *testing.T) {
	f := full(t)
	names := f.Names()
	if len(names) != api.MaxFiles {
		t.Fatalf("%d files", len(names))
	}
	for _, name := range []string{"a", "Z", "AA"} {
		askPut(t, f, name, nil, api.ErrBig)
		askPut(t, f, name, make([]byte, api.MaxFile+1), api.ErrLong)
		askSize(t, f, name, 0, api.ErrMissing)
	}
	askPut(t, f, "", nil, api.ErrName)
	for i, name := range names {
		askRead(t, f, name, 0, 1, string([]byte{byte(i)}))
		askPut(t, f, name, []byte(name+"again"), api.OK)
	}
	for _, name := range names {
		askRead(t, f, name, 0, 6, name+"again")
	}
	askNames(t, f, names...)
}

// P8.2: what is put last is read, whether it is longer or shorter, and nothing else.
func TestPutAgain(t *testing.T) {
	f := one(t)
	askPut(t, f, "b", []byte("other"), api.OK)
	for _, s := range []string{"longer than it was", "short", "", "x"} {
		askPut(t, f, "a", []byte(s), api.OK)
		askSize(t, f, "a", len(s), api.OK)
		askRead(t, f, "a", 0, len(s), s)
		askNoRead(t, f, "a", 0, len(s)+1, api.ErrShort)
		askRead(t, f, "b", 0, 5, "other")
	}
	askNames(t, f, "a", "b")
}

// P8.1: each range of a file, within it and beyond its end.
func TestRanges(t *testing.T) {
	const s = "abcde"
	f := New()
	askPut(t, f, "f", []byte(s), api.OK)
	for at := range 9 {
		for n := range 9 {
			has := max(0, len(s)-at)
			if n > has {
				askNoRead(t, f, "f", at, n, api.ErrShort)
			} else {
				askRead(t, f, "f", at, n, s[min(at, len(s)):][:n])
			}
		}
	}
	askNoRead(t, f, "f", math.MaxInt, math.MaxInt, api.ErrShort)
	askNoRead(t, f, "f", 1, math.MaxInt, api.ErrShort)
	askNoRead(t, f, "f", math.MaxInt, 1, api.ErrShort)
}

// P8.1: an argument below 0 is refused first, and a name that is missing ahead of what is too short.
func TestReadErrors(t *testing.T) {
	f := one(t)
	askFail(t, f, 1, api.OK)
	for _, name := range []string{"a", "b", ""} {
		for _, v := range []int{-1, -2, math.MinInt} {
			askNoRead(t, f, name, v, 1, api.ErrArg)
			askNoRead(t, f, name, 1, v, api.ErrArg)
			askNoRead(t, f, name, v, v, api.ErrArg)
			askNoRead(t, f, name, 9, v, api.ErrArg)
			askNoRead(t, f, name, v, 9, api.ErrArg)
			askNoRead(t, f, name, math.MaxInt, v, api.ErrArg)
		}
	}
	for _, name := range []string{"b", "", "A", "a\x00", "aa"} {
		askNoRead(t, f, name, 0, 1, api.ErrMissing)
		askNoRead(t, f, name, 9, 9, api.ErrMissing)
		askSize(t, f, name, 0, api.ErrMissing)
	}
	askNoRead(t, f, "a", 0, 4, api.ErrShort)
	// None of these was the read that is to fail.
	askNoRead(t, f, "a", 0, 3, api.ErrRead)
	askRead(t, f, "a", 0, 3, "\x01\x02\x03")
}

// P8.1: how far ahead a read may be told to fail.
func TestFailErrors(t *testing.T) {
	f := one(t)
	for _, k := range []int{0, -1, math.MinInt, 65537, 65538, math.MaxInt} {
		askFail(t, f, k, api.ErrArg)
	}
	for range 3 {
		askRead(t, f, "a", 0, 1, "\x01")
	}
	askFail(t, f, 65536, api.OK)
	for range 65535 {
		if _, e := f.Read("a", 0, 1); e != api.OK {
			t.Fatalf("the read %d: %d", f.Reads(), e)
		}
	}
	askNoRead(t, f, "a", 0, 1, api.ErrRead)
	askRead(t, f, "a", 0, 1, "\x01")
	askReads(t, f, 3+65536+1)
}

// P8.2: several reads are told to fail, at one time and at several, and some twice: each fails once.
func TestFails(t *testing.T) {
	f := one(t)
	askPut(t, f, "b", nil, api.OK)
	for _, k := range []int{3, 1, 3, 6} {
		askFail(t, f, k, api.OK)
	}
	askNoRead(t, f, "a", 0, 3, api.ErrRead)
	askRead(t, f, "b", 0, 0, "")
	// The third read is the first from now on, the sixth is the fourth.
	askFail(t, f, 1, api.OK)
	askFail(t, f, 2, api.OK)
	askNoRead(t, f, "b", 0, 0, api.ErrRead)
	askNoRead(t, f, "a", 2, 1, api.ErrRead)
	askRead(t, f, "a", 2, 1, "\x03")
	askNoRead(t, f, "a", 0, 0, api.ErrRead)
	for range 70 {
		askRead(t, f, "a", 0, 3, "\x01\x02\x03")
	}
}

// P8.2: what is put between leaves the reads that are to fail, and what is read after them.
func TestFailAndPut(t *testing.T) {
	f := one(t)
	askFail(t, f, 2, api.OK)
	askPut(t, f, "a", []byte("xy"), api.OK)
	askRead(t, f, "a", 0, 2, "xy")
	askPut(t, f, "a", []byte("z"), api.OK)
	askSize(t, f, "a", 1, api.OK)
	askNoRead(t, f, "a", 0, 1, api.ErrRead)
	askRead(t, f, "a", 0, 1, "z")
}

// P8.1: what is put and what was read are the caller's; Files of their own know nothing of one another.
func TestApart(t *testing.T) {
	f, other := New(), New()
	b := []byte("abcspare")
	askPut(t, f, "a", b[:3], api.OK)
	askPut(t, other, "a", b, api.OK)
	if string(b) != "abcspare" {
		t.Errorf("Put has made %q", b)
	}
	clear(b)
	out, _ := f.Read("a", 0, 2)
	clear(out[:cap(out)])
	askRead(t, f, "a", 0, 3, "abc")
	askNoRead(t, f, "a", 0, 4, api.ErrShort)
	askFail(t, f, 1, api.OK)
	askRead(t, other, "a", 0, 8, "abcspare")
	askReads(t, other, 1)
	askNoRead(t, f, "a", 0, 3, api.ErrRead)
	askReads(t, f, 3)
}

// model is Files as the chapter tells them, with rows in place of maps.
type model struct {
	names []string
	rows  [][]byte
	reads int
	fails []int // how many reads it is to each
}

func (m *model) put(name string, data []byte) api.Errno {
	if name == "" || len(name) > 64 || strings.Contains(name, "\x00") {
		return api.ErrName
	}
	if len(data) > 65536 {
		return api.ErrLong
	}
	i, found := slices.BinarySearch(m.names, name)
	if !found && len(m.names) >= 16 {
		return api.ErrBig
	}
	if !found {
		m.names, m.rows = slices.Insert(m.names, i, name), slices.Insert(m.rows, i, nil)
	}
	m.rows[i] = bytes.Clone(data)
	return api.OK
}

func (m *model) size(name string) (int, api.Errno) {
	if i := slices.Index(m.names, name); i >= 0 {
		return len(m.rows[i]), api.OK
	}
	return 0, api.ErrMissing
}

func (m *model) read(name string, at, n int) ([]byte, api.Errno) {
	if at < 0 || n < 0 {
		return nil, api.ErrArg
	}
	size, e := m.size(name)
	if e != api.OK {
		return nil, e
	}
	if n > max(0, size-at) {
		return nil, api.ErrShort
	}
	m.reads++
	failed, left := false, []int(nil)
	for _, k := range m.fails {
		if k == 1 {
			failed = true
		} else {
			left = append(left, k-1)
		}
	}
	m.fails = left
	if failed {
		return nil, api.ErrRead
	}
	var out []byte
	for i := range n {
		out = append(out, m.rows[slices.Index(m.names, name)][at+i])
	}
	return out, api.OK
}

func (m *model) fail(k int) api.Errno {
	if k < 1 || k > 65536 {
		return api.ErrArg
	}
	m.fails = append(m.fails, k)
	return api.OK
}

// name is a name by chance, one that may not be among them.
func (c *chance) name() string {
	if c.below(30) == 0 {
		return []string{"", "a\x00", strings.Repeat("x", 65)}[c.below(3)]
	}
	return strings.Repeat("f", 1+c.below(2)) + string(rune('a'+c.below(9)))
}

// P8.1, P8.2: the calls in rows by chance, against the model.
func TestByChance(t *testing.T) {
	for seed := range 60 {
		c := chance(seed)
		f, m := New(), new(model)
		for range 500 {
			name := c.name()
			switch c.below(8) {
			case 0, 1:
				b := c.some(c.below(20))
				askPut(t, f, name, b, m.put(name, b))
			case 2:
				k := c.below(12) - 1
				askFail(t, f, k, m.fail(k))
			case 3:
				n, e := m.size(name)
				askSize(t, f, name, n, e)
			default:
				at, n := c.below(16)-1, c.below(12)-1
				want, e := m.read(name, at, n)
				if b, got := f.Read(name, at, n); !bytes.Equal(b, want) || got != e {
					t.Fatalf("seed %d: Read(%q, %d, %d) = % x, %d, not % x, %d", seed, name, at, n, b, got, want, e)
				}
			}
			askReads(t, f, m.reads)
			askNames(t, f, m.names...)
		}
	}
}
