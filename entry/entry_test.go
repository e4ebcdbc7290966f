package entry

import (
	"archive/zip"
	"bytes"
	"compress/flate"
	"hash/crc32"
	"math"
	"slices"
	"strings"
	"testing"

	"samovar/api"
	"samovar/archive"
)

// chance tells numbers that are always the same ones.
type chance uint32

func (c *chance) below(n int) int {
	*c = *c*1664525 + 1013904223
	return int(uint32(*c)>>8) % n
}

// text is n bytes, of which some are worth squeezing.
func (c *chance) text(n int) string {
	b := make([]byte, n)
	for i := range b {
		b[i] = byte(c.below(4)) * byte(c.below(80))
	}
	return string(b)
}

func crc(s string) int { return int(crc32.ChecksumIEEE([]byte(s))) }

// squeezed is a text as the library squeezes it.
func squeezedText(s string, level int) string {
	var b bytes.Buffer
	w, err := flate.NewWriter(&b, level)
	if err != nil {
		panic(err)
	}
	w.Write([]byte(s))
	w.Close()
	return b.String()
}

// plainly is the record of a text that is stored.
func plainly(s string) api.Record {
	return api.Record{Packed: len(s), Size: len(s), Sum: crc(s)}
}

// squeezedly is the record of a text that is squeezed to other bytes.
func squeezedly(s, packed string) api.Record {
	return api.Record{Method: 8, Packed: len(packed), Size: len(s), Sum: crc(s)}
}

func askUnpack(t *testing.T, r api.Record, packed, want string) {
	t.Helper()
	in := append([]byte(packed), "spare"...)
	b, e := Unpack(r, in[:len(packed)])
	if e != api.OK || string(b) != want {
		t.Errorf("Unpack(%+v, %.60q) = %.60q, %d, not %.60q", r, packed, b, e, want)
	}
	if string(in) != packed+"spare" {
		t.Errorf("Unpack(%+v, %.60q) has made %.60q of it", r, packed, in)
	}
	// What is answered shares nothing with what was handed in.
	clear(b[:cap(b)])
	if string(in) != packed+"spare" {
		t.Errorf("Unpack(%+v, %.60q) answers what it was handed", r, packed)
	}
}

func askNoUnpack(t *testing.T, r api.Record, packed string, want api.Errno) {
	t.Helper()
	if b, e := Unpack(r, []byte(packed)); e != want || len(b) != 0 {
		t.Errorf("Unpack(%+v, %.60q) = %.60q, %d, not %d", r, packed, b, e, want)
	}
}

func askFind(t *testing.T, b []byte, name, want string) {
	t.Helper()
	if x, e := Find(b, name); e != api.OK || string(x) != want {
		t.Errorf("Find(%q) = %.60q, %d, not %.60q", name, x, e, want)
	}
}

func askNoFind(t *testing.T, b []byte, name string, want api.Errno) {
	t.Helper()
	if x, e := Find(b, name); e != want || len(x) != 0 {
		t.Errorf("Find(%q) = %.60q, %d, not %d", name, x, e, want)
	}
}

// bundled is an entry that is to be laid into an archive.
type bundled struct {
	name, packed string
	api.Record
}

// archived is an archive as the library writes it.
func archived(t *testing.T, entries ...bundled) []byte {
	t.Helper()
	var b bytes.Buffer
	w := zip.NewWriter(&b)
	for _, x := range entries {
		f, err := w.CreateRaw(&zip.FileHeader{Name: x.name, Method: uint16(x.Method), CRC32: uint32(x.Sum), CompressedSize64: uint64(x.Packed), UncompressedSize64: uint64(x.Size)})
		if err != nil {
			t.Fatal(err)
		}
		f.Write([]byte(x.packed))
	}
	w.Close()
	return b.Bytes()
}

// P10.1: the chapter's examples.
func TestExamples(t *testing.T) {
	r := api.Record{Size: 1, Packed: 1, Sum: 0xe8b7be43}
	askUnpack(t, r, "a", "a")
	r.Size = 2
	askNoUnpack(t, r, "a", api.ErrSize)
	r.Size = 40000
	askNoUnpack(t, r, "a", api.ErrBig)
	r.Size, r.Sum = 1, 0
	askNoUnpack(t, r, "a", api.ErrSum)
	r.Sum = 0xe8b7be43
	askNoUnpack(t, r, "ab", api.ErrArg)
	askNoFind(t, nil, "a", api.ErrEnd)
}

// P10.1: bytes that stand as they are.
func TestStored(t *testing.T) {
	var c chance
	for _, n := range []int{0, 1, 2, 255, 256, 1000, 32767, 32768} {
		s := c.text(n)
		r := plainly(s)
		askUnpack(t, r, s, s)
		for _, d := range []int{-1, 1, 7} {
			x := r
			if x.Size += d; x.Size >= 0 && x.Size <= api.MaxEntry {
				askNoUnpack(t, x, s, api.ErrSize)
			}
		}
	}
	// What isn't asked of a record changes nothing.
	r := plainly("abc")
	r.Name, r.At, r.Head = "\x00", -1, math.MaxInt
	askUnpack(t, r, "abc", "abc")
}

// P10.1: bytes that are squeezed.
func TestSqueezed(t *testing.T) {
	var c chance
	for _, n := range []int{0, 1, 2, 255, 256, 1000, 32767, 32768} {
		for _, level := range []int{0, 1, 9} {
			s := c.text(n)
			packed := squeezedText(s, level)
			r := squeezedly(s, packed)
			askUnpack(t, r, packed, s)
			if n > 0 {
				x := r
				x.Size--
				askNoUnpack(t, x, packed, api.ErrLong)
			}
			if n < api.MaxEntry {
				x := r
				x.Size++
				askNoUnpack(t, x, packed, api.ErrSize)
			}
		}
	}
}

// P10.1: the size 0 lets nothing be unpacked, but for nothing.
func TestEmpty(t *testing.T) {
	askUnpack(t, api.Record{}, "", "")
	askUnpack(t, api.Record{Method: 8, Packed: 2}, "\x03\x00", "")
	askNoUnpack(t, api.Record{Method: 8}, "", api.ErrShort)
	askNoUnpack(t, api.Record{Method: 8, Packed: 3}, "\x4b\x04\x00", api.ErrLong)
	askNoUnpack(t, api.Record{Sum: 1}, "", api.ErrSum)
	askNoUnpack(t, api.Record{Method: 8, Packed: 2, Sum: 1}, "\x03\x00", api.ErrSum)
	askNoUnpack(t, api.Record{Packed: 1}, "a", api.ErrSize)
}

// P10.1: packed bytes that are too few or too many, methods that there are none, sizes below 0.
func TestArguments(t *testing.T) {
	for _, method := range []int{0, 8} {
		s, packed := "a", "a"
		if method == 8 {
			packed = "\x4b\x04\x00"
		}
		r := api.Record{Method: method, Packed: len(packed), Size: 1, Sum: crc(s)}
		askUnpack(t, r, packed, s)
		for _, more := range []string{"", packed[1:], packed + "x", packed + packed} {
			askNoUnpack(t, r, more, api.ErrArg)
		}
		for _, n := range []int{0, -1, len(packed) + 1, -len(packed), math.MaxInt, math.MinInt, len(packed) + 1<<32} {
			x := r
			x.Packed = n
			askNoUnpack(t, x, packed, api.ErrArg)
		}
		for _, n := range []int{-1, -8, math.MinInt} {
			x := r
			x.Size = n
			askNoUnpack(t, x, packed, api.ErrArg)
		}
	}
	for _, method := range []int{-8, -1, 1, 2, 7, 9, 12, 16, 256, 8 + 1<<32, math.MaxInt, math.MinInt} {
		askNoUnpack(t, api.Record{Method: method, Packed: 1, Size: 1, Sum: crc("a")}, "a", api.ErrArg)
		askNoUnpack(t, api.Record{Method: method, Packed: 1, Size: 40000}, "a", api.ErrArg)
		askNoUnpack(t, api.Record{Method: method}, "", api.ErrArg)
	}
}

// P10.1, P10.2: sizes above the bound, whatever is packed.
func TestBig(t *testing.T) {
	most := strings.Repeat("m", api.MaxEntry)
	for _, n := range []int{api.MaxEntry + 1, 65536, math.MaxUint32, math.MaxInt} {
		for _, method := range []int{0, 8} {
			askNoUnpack(t, api.Record{Method: method, Size: n}, "", api.ErrBig)
			askNoUnpack(t, api.Record{Method: method, Size: n, Packed: 1}, "\x07", api.ErrBig)
			askNoUnpack(t, api.Record{Method: method, Size: n, Packed: 2}, "\x07", api.ErrArg)
		}
	}
	for _, over := range []string{most + "m", most + most} {
		askNoUnpack(t, plainly(over), over, api.ErrBig)
		packed := squeezedText(over, 9)
		r := squeezedly(over, packed)
		askNoUnpack(t, r, packed, api.ErrBig)
		r.Size = api.MaxEntry
		askNoUnpack(t, r, packed, api.ErrLong)
	}
	// Few bytes that become many: nothing beyond the size is made.
	bomb := squeezedText(strings.Repeat("\x00", 20<<20), 9)
	for _, n := range []int{0, 1, 100, api.MaxEntry} {
		askNoUnpack(t, api.Record{Method: 8, Packed: len(bomb), Size: n}, bomb, api.ErrLong)
	}
	// More bytes packed than an entry may have, in blocks of nothing.
	empty := strings.Repeat("\x00\x00\x00\xff\xff", 8000) + "\x4b\x04\x00"
	askUnpack(t, squeezedly("a", empty), empty, "a")
	askNoUnpack(t, api.Record{Packed: len(most) + 1, Size: api.MaxEntry}, most+"m", api.ErrSize)
}

// P10.1: what inflate answers is answered.
func TestInflate(t *testing.T) {
	for packed, want := range map[string]api.Errno{
		"":                         api.ErrShort,
		"\x4b":                     api.ErrShort,
		"\x07":                     api.ErrBlock,
		"\x01\x01\x00\x00\x00a":    api.ErrStored,
		"\xfd\xff\xff":             api.ErrPrefix,
		"\x03\x02\x00":             api.ErrFar,
		"\x4b\x04":                 api.ErrShort,
		"\x01\x02\x00\xfd\xffab":   api.ErrLong,
		"\x4b\x4c\x04\x00":         api.ErrLong,
		"\x1b\x03":                 api.ErrSymbol,
		"\x01\x01\x00\xfe\xffa":    api.OK,
		"\x4b\x04\x00":             api.OK,
		"\x00\x00\x00\xff\xff\x07": api.ErrBlock,
	} {
		r := squeezedly("a", packed)
		if want == api.OK {
			askUnpack(t, r, packed, "a")
			continue
		}
		askNoUnpack(t, r, packed, want)
		r.Sum++
		askNoUnpack(t, r, packed, want)
	}
}

// P10.1: all of what is packed is taken.
func TestTaken(t *testing.T) {
	for _, s := range []string{"", "a", strings.Repeat("ab", 500)} {
		for _, level := range []int{0, 1, 9} {
			packed := squeezedText(s, level)
			for _, more := range []string{"\x00", "\xff", "\x03\x00", packed} {
				askNoUnpack(t, squeezedly(s, packed+more), packed+more, api.ErrSize)
			}
			for n := range len(packed) {
				askNoUnpack(t, squeezedly(s, packed[:n]), packed[:n], api.ErrShort)
			}
		}
	}
	// Bits of the last byte may be left.
	askUnpack(t, squeezedly("a", "\x4b\x04\x80"), "\x4b\x04\x80", "a")
	askUnpack(t, squeezedly("", "\x03\xfc"), "\x03\xfc", "")
}

// P10.1, P10.2: sums.
func TestSum(t *testing.T) {
	for _, s := range []string{"", "a", "abc", strings.Repeat("x", api.MaxEntry)} {
		packed := squeezedText(s, 9)
		for _, wrong := range []int{crc(s) ^ 1, crc(s) ^ 1<<31, ^crc(s), crc(s) + 1<<32, crc(s) - 1<<32, crc(s + "a"), -1, math.MinInt} {
			r := plainly(s)
			r.Sum = wrong
			askNoUnpack(t, r, s, api.ErrSum)
			r = squeezedly(s, packed)
			r.Sum = wrong
			askNoUnpack(t, r, packed, api.ErrSum)
		}
	}
	// The size is asked ahead of the sum.
	askNoUnpack(t, api.Record{Packed: 1, Size: 2, Sum: 5}, "a", api.ErrSize)
	askNoUnpack(t, api.Record{Method: 8, Packed: 3, Size: 2, Sum: 5}, "\x4b\x04\x00", api.ErrSize)
	askNoUnpack(t, api.Record{Method: 8, Packed: 4, Size: 1, Sum: 5}, "\x4b\x04\x00\x00", api.ErrSize)
}

// P10.2: each bit of stored bytes counts; of squeezed ones none becomes another text unseen.
func TestBits(t *testing.T) {
	s := "bits of bytes, bits of bytes"
	packed := squeezedText(s, 9)
	for i := range 8 * len(s) {
		b := []byte(s)
		b[i/8] ^= 1 << (i % 8)
		askNoUnpack(t, plainly(s), string(b), api.ErrSum)
	}
	for i := range 8 * len(packed) {
		b := []byte(packed)
		b[i/8] ^= 1 << (i % 8)
		x, e := Unpack(squeezedly(s, packed), b)
		if e == api.OK && string(x) != s || e != api.OK && len(x) != 0 {
			t.Errorf("with another bit %d: %q, %d", i, x, e)
		}
	}
}

// P10.1: names are looked up, each as it stands.
func TestFind(t *testing.T) {
	squeezed := squeezedText("squeezed squeezed squeezed", 9)
	b := archived(t,
		bundled{"a", "stored", plainly("stored")},
		bundled{"a/", "", plainly("")},
		bundled{"a/b.class", squeezed, squeezedly("squeezed squeezed squeezed", squeezed)},
		bundled{"A", "other", plainly("other")},
		bundled{"\xff", "odd", plainly("odd")})
	askFind(t, b, "a", "stored")
	askFind(t, b, "a/", "")
	askFind(t, b, "a/b.class", "squeezed squeezed squeezed")
	askFind(t, b, "A", "other")
	askFind(t, b, "\xff", "odd")
	for _, name := range []string{"", "b", "a/b", "a/b.clas", "a/b.class ", "a\x00", "/a", "aa", "\xfe", "\ufffd", strings.Repeat("a", 1000)} {
		askNoFind(t, b, name, api.ErrMissing)
	}
	// What is found is what the directory tells, unpacked.
	records, e := archive.Directory(b)
	if e != api.OK {
		t.Fatal(e)
	}
	for _, r := range records {
		x, e := Unpack(r, b[r.At:][:r.Packed])
		y, e2 := Find(b, r.Name)
		if e != e2 || !bytes.Equal(x, y) {
			t.Errorf("%+v: %q, %d and %q, %d", r, x, e, y, e2)
		}
	}
}

// P10.1: what is no archive.
func TestFindErrors(t *testing.T) {
	good := archived(t, bundled{"a", "x", plainly("x")})
	for _, name := range []string{"a", "b", ""} {
		askNoFind(t, nil, name, api.ErrEnd)
		askNoFind(t, good[:len(good)-1], name, api.ErrEnd)
		askNoFind(t, make([]byte, api.MaxFile+1), name, api.ErrLong)
		b := slices.Clone(good)
		b[0] = 'Q'
		askNoFind(t, b, name, api.ErrLocal)
		askNoFind(t, append([]byte{0}, good...), name, api.ErrDisk)
		twice := archived(t, bundled{"a", "x", plainly("x")}, bundled{"a", "y", plainly("y")})
		askNoFind(t, twice, name, api.ErrTwice)
		askNoFind(t, archived(t, bundled{"..", "x", plainly("x")}), name, api.ErrName)
	}
	askNoFind(t, archived(t), "a", api.ErrMissing)
	askFind(t, good, "a", "x")
}

// P10.3: what is wrong with one entry is answered of it alone.
func TestApartNames(t *testing.T) {
	fine := squeezedText("fine", 9)
	bad := map[string]struct {
		packed string
		r      api.Record
		e      api.Errno
	}{
		"big":      {"x", api.Record{Packed: 1, Size: 32769, Sum: crc("x")}, api.ErrBig},
		"huge":     {"x", api.Record{Method: 8, Packed: 1, Size: math.MaxInt32}, api.ErrBig},
		"size":     {"x", api.Record{Packed: 1, Size: 2, Sum: crc("x")}, api.ErrSize},
		"sum":      {"x", api.Record{Packed: 1, Size: 1}, api.ErrSum},
		"block":    {"\x07", api.Record{Method: 8, Packed: 1, Size: 1}, api.ErrBlock},
		"short":    {"\x4b", api.Record{Method: 8, Packed: 1, Size: 1}, api.ErrShort},
		"long":     {"\x4b\x04\x00", api.Record{Method: 8, Packed: 3, Sum: crc("a")}, api.ErrLong},
		"less":     {"\x4b\x04\x00", api.Record{Method: 8, Packed: 3, Size: 2, Sum: crc("a")}, api.ErrSize},
		"more":     {"\x4b\x04\x00\x00", api.Record{Method: 8, Packed: 4, Size: 1, Sum: crc("a")}, api.ErrSize},
		"squeezed": {"\x4b\x04\x00", api.Record{Method: 8, Packed: 3, Size: 1, Sum: crc("b")}, api.ErrSum},
	}
	var all []bundled
	for name, x := range bad {
		b := archived(t, bundled{"first", "one", plainly("one")}, bundled{name, x.packed, x.r}, bundled{"last", fine, squeezedly("fine", fine)})
		askFind(t, b, "first", "one")
		askFind(t, b, "last", "fine")
		askNoFind(t, b, name, x.e)
		askNoFind(t, b, "none", api.ErrMissing)
		all = append(all, bundled{name, x.packed, x.r})
	}
	all = append(all, bundled{"good", fine, squeezedly("fine", fine)})
	b := archived(t, all...)
	askFind(t, b, "good", "fine")
	for name, x := range bad {
		askNoFind(t, b, name, x.e)
	}
}

// P10.3: each packed byte of one entry may be any: the other one is what it was.
func TestApartBytes(t *testing.T) {
	s := "some text, some text"
	packed := squeezedText(s, 9)
	good := archived(t, bundled{"a", packed, squeezedly(s, packed)}, bundled{"b", s, plainly(s)})
	records, _ := archive.Directory(good)
	for i, r := range records {
		other := records[1-i].Name
		for at := r.At; at < r.At+r.Packed; at++ {
			for _, bit := range []byte{1, 16, 0xff} {
				b := slices.Clone(good)
				b[at] ^= bit
				askFind(t, b, other, s)
				if x, e := Find(b, r.Name); e == api.OK && string(x) != s {
					t.Errorf("%q is %q", r.Name, x)
				}
			}
		}
	}
}

// P10.1: what is handed in is neither changed nor kept.
func TestApart(t *testing.T) {
	for _, r := range []bundled{{"a", "stored", plainly("stored")}, {"a", "\x4b\x04\x00", squeezedly("a", "\x4b\x04\x00")}} {
		b := archived(t, r)
		before := slices.Clone(b)
		x, e := Find(b, "a")
		was := string(x)
		if e != api.OK || !bytes.Equal(b, before) {
			t.Errorf("Find has changed the archive, %d", e)
		}
		clear(x[:cap(x)])
		if !bytes.Equal(b, before) {
			t.Error("Find answers a piece of the archive")
		}
		x, _ = Find(b, "a")
		clear(b)
		if string(x) != was {
			t.Errorf("Find has answered %q, which is %q now", was, x)
		}
	}
}

// P10.1, P10.2: records and bytes of all kinds: what is answered has the size and the sum.
func TestAll(t *testing.T) {
	var c chance
	sizes := []int{-1, 0, 1, 2, 3, 4, 32768, 32769}
	met := map[api.Errno]int{}
	for range 8000 {
		s := c.text(c.below(5))
		packed := s
		r := api.Record{Method: []int{0, 8, 8, 1}[c.below(4)], Size: len(s), Sum: crc(s)}
		if r.Method == 8 {
			packed = squeezedText(s, []int{0, 1, 9}[c.below(3)])
		}
		b := []byte(packed)
		switch c.below(6) {
		case 0:
			if len(b) > 0 {
				b[c.below(len(b))] ^= 1 << c.below(8)
			}
		case 1:
			b = b[:c.below(len(b)+1)]
		case 2:
			r.Size = sizes[c.below(len(sizes))]
		case 3:
			r.Sum ^= 1 << c.below(32)
		}
		r.Packed = len(b)
		if c.below(16) == 0 {
			r.Packed += c.below(3) - 1
		}
		x, e := Unpack(r, b)
		met[e]++
		if e != api.OK && len(x) != 0 || e == api.OK && (len(x) != r.Size || crc(string(x)) != r.Sum || len(b) != r.Packed || len(x) > api.MaxEntry) {
			t.Fatalf("Unpack(%+v, % x) = % x, %d", r, b, x, e)
		}
		if e == api.OK && r.Method == 0 && !bytes.Equal(x, b) {
			t.Fatalf("Unpack(%+v, % x) = % x", r, b, x)
		}
	}
	for _, e := range []api.Errno{api.OK, api.ErrArg, api.ErrBig, api.ErrSize, api.ErrSum, api.ErrShort, api.ErrLong} {
		if met[e] < 50 {
			t.Errorf("the error %d was met %d times", e, met[e])
		}
	}
}
