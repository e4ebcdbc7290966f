package bundle

import (
	"archive/zip"
	"bytes"
	"encoding/binary"
	"hash/crc32"
	"io"
	"reflect"
	"slices"
	"strconv"
	"strings"
	"testing"

	"samovar/api"
	"samovar/archive"
	"samovar/entry"
	"samovar/squeeze"
)

// chance tells numbers that are always the same ones.
type chance uint32

func (c *chance) below(n int) int {
	*c = *c*1664525 + 1013904223
	return int(uint32(*c)>>8) % n
}

// text is n bytes, of which some are worth squeezing.
func (c *chance) text(n int) string {
	b := make([]byte, n)
	for i := range b {
		b[i] = byte(c.below(4)) * byte(c.below(80))
	}
	return string(b)
}

// plain is an item that is stored.
func plain(name, data string) api.Item { return api.Item{Name: name, Data: []byte(data)} }

// tight is an item that is squeezed.
func tight(name, data string) api.Item {
	return api.Item{Name: name, Data: []byte(data), Squeeze: true}
}

// many are n items without data, each with a name of its own.
func many(n int) []api.Item {
	var items []api.Item
	for i := range n {
		items = append(items, plain(strconv.Itoa(i), ""))
	}
	return items
}

// bytesOf is an archive as the chapter tells it, made by the library's means.
func bytesOf(items []api.Item) []byte {
	var b, dir bytes.Buffer
	put := func(to *bytes.Buffer, all ...any) {
		for _, x := range all {
			binary.Write(to, binary.LittleEndian, x)
		}
	}
	for _, it := range items {
		packed, method := it.Data, uint16(0)
		if it.Squeeze {
			packed, _ = squeeze.All(it.Data)
			method = 8
		}
		head := uint32(b.Len())
		sum := crc32.ChecksumIEEE(it.Data)
		put(&b, uint32(0x04034b50), uint16(20), uint16(0), method, uint16(0), uint16(33), sum,
			uint32(len(packed)), uint32(len(it.Data)), uint16(len(it.Name)), uint16(0), []byte(it.Name), packed)
		put(&dir, uint32(0x02014b50), uint16(20), uint16(20), uint16(0), method, uint16(0), uint16(33), sum,
			uint32(len(packed)), uint32(len(it.Data)), uint16(len(it.Name)), uint16(0), uint16(0), uint16(0), uint16(0), uint32(0), head, []byte(it.Name))
	}
	from := uint32(b.Len())
	b.Write(dir.Bytes())
	put(&b, uint32(0x06054b50), uint16(0), uint16(0), uint16(len(items)), uint16(len(items)), uint32(dir.Len()), from, uint16(0))
	return b.Bytes()
}

// copied are the same items in other memory.
func copied(items []api.Item) []api.Item {
	l := slices.Clone(items)
	for i := range l {
		l[i].Data = slices.Clone(l[i].Data)
	}
	return l
}

// askMake asks that items become what the model makes of them.
func askMake(t *testing.T, items ...api.Item) []byte {
	t.Helper()
	before := copied(items)
	b, e := Make(items)
	if want := bytesOf(before); e != api.OK || !bytes.Equal(b, want) {
		t.Fatalf("Make(%.200v) = % .200x, %d, not % .200x", items, b, e, want)
	}
	if !reflect.DeepEqual(items, before) {
		t.Errorf("Make has made %.200v of %.200v", items, before)
	}
	return b
}

// askFound asks that what is made is an archive which has the items.
func askFound(t *testing.T, items ...api.Item) {
	t.Helper()
	b := askMake(t, items...)
	records, e := archive.Directory(b)
	if e != api.OK || len(records) != len(items) {
		t.Fatalf("Directory = %+v, %d", records, e)
	}
	for i, it := range items {
		if records[i].Name != it.Name {
			t.Errorf("the record %d is %q, not %q", i, records[i].Name, it.Name)
		}
		if x, e := entry.Find(b, it.Name); e != api.OK || !bytes.Equal(x, it.Data) {
			t.Errorf("Find(%q) = % .60x, %d, not % .60x", it.Name, x, e, it.Data)
		}
	}
}

func askNone(t *testing.T, want api.Errno, items ...api.Item) {
	t.Helper()
	if b, e := Make(items); e != want || len(b) != 0 {
		t.Errorf("Make(%.200v) = % .60x, %d, not %d", items, b, e, want)
	}
}

// P11.1: the chapter's examples.
func TestExamples(t *testing.T) {
	if b := askMake(t); string(b) != "PK\x05\x06"+strings.Repeat("\x00", 18) {
		t.Errorf("without items: % x", b)
	}
	if b := askMake(t, plain("a", "x")); len(b) != 1+1+30+46+1+22 {
		t.Errorf("with one item %d bytes", len(b))
	}
	askNone(t, api.ErrName, plain("/a", ""))
	askNone(t, api.ErrTwice, plain("a", ""), plain("a", ""))
}

// P11.1: an archive of two entries, byte by byte.
func TestBytes(t *testing.T) {
	want := "PK\x03\x04\x14\x00\x00\x00\x00\x00\x00\x00\x21\x00\x43\xbe\xb7\xe8\x01\x00\x00\x00\x01\x00\x00\x00\x01\x00\x00\x00" + "b" + "a" +
		"PK\x03\x04\x14\x00\x00\x00\x00\x00\x00\x00\x21\x00\x00\x00\x00\x00\x00\x00\x00\x00\x00\x00\x00\x00\x03\x00\x00\x00" + "c/d" +
		"PK\x01\x02\x14\x00\x14\x00\x00\x00\x00\x00\x00\x00\x21\x00\x43\xbe\xb7\xe8\x01\x00\x00\x00\x01\x00\x00\x00\x01\x00\x00\x00\x00\x00\x00\x00\x00\x00\x00\x00\x00\x00\x00\x00\x00\x00" + "b" +
		"PK\x01\x02\x14\x00\x14\x00\x00\x00\x00\x00\x00\x00\x21\x00\x00\x00\x00\x00\x00\x00\x00\x00\x00\x00\x00\x00\x03\x00\x00\x00\x00\x00\x00\x00\x00\x00\x00\x00\x00\x00\x20\x00\x00\x00" + "c/d" +
		"PK\x05\x06\x00\x00\x00\x00\x02\x00\x02\x00\x60\x00\x00\x00\x41\x00\x00\x00\x00\x00"
	if b := askMake(t, plain("b", "a"), plain("c/d", "")); string(b) != want {
		t.Errorf("%q, not %q", b, want)
	}
}

// P11.1, P11.2: data of many lengths, stored and squeezed, even where squeezing makes it longer.
func TestLengths(t *testing.T) {
	var c chance
	for _, n := range []int{0, 1, 2, 3, 21, 22, 23, 255, 256, 257, 4000, 32767, 32768} {
		s := c.text(n)
		askFound(t, plain("stored", s))
		askFound(t, tight("squeezed", s))
		if n < 20000 {
			askFound(t, plain("a", s), tight("b", s), plain("c", ""), tight("d", ""), tight("e", "x"))
		}
	}
	// Squeezed, sixteen times the bytes of a file find room in one.
	var items []api.Item
	for i := range 32 {
		items = append(items, tight(strconv.Itoa(i), strings.Repeat("m", api.MaxEntry)))
	}
	askFound(t, items...)
}

// P11.1: names that are names, and others.
func TestNames(t *testing.T) {
	longest := strings.Repeat("n", api.MaxName)
	good := []string{"a", "A", "a/", "a/b", "a.class", "META-INF/MANIFEST.MF", ".a", "a..", "...", " ", "\xff\xfe", "\u00fc", "a:b", longest, longest[:63] + "/"}
	bad := []string{"", "/", "/a", "a//b", "a//", ".", "..", "../a", "a/./b", "a/..", "./", "a\x00", "a\\b", longest + "n", longest + "/"}
	var items []api.Item
	for _, name := range good {
		askFound(t, plain(name, "x"))
		items = append(items, tight(name, name))
	}
	askFound(t, items...)
	for _, name := range bad {
		askNone(t, api.ErrName, plain(name, "x"))
		askNone(t, api.ErrName, tight(name, "x"))
		askNone(t, api.ErrName, append(slices.Clone(items), plain(name, ""))...)
		askNone(t, api.ErrName, append([]api.Item{plain(name, "")}, items...)...)
	}
	for _, name := range good {
		askNone(t, api.ErrTwice, append(slices.Clone(items), plain(name, "other"))...)
	}
}

// P11.1: so many items and no more, whatever they are.
func TestMany(t *testing.T) {
	askFound(t, many(api.MaxEntries-1)...)
	askFound(t, many(api.MaxEntries)...)
	askNone(t, api.ErrBig, many(api.MaxEntries+1)...)
	askNone(t, api.ErrBig, many(70000)...)
	askNone(t, api.ErrBig, make([]api.Item, api.MaxEntries+1)...)
	over := many(api.MaxEntries + 1)
	over[0].Data = make([]byte, api.MaxEntry+1)
	over[1].Name = over[0].Name
	askNone(t, api.ErrBig, over...)
}

// P11.1: data above the bound, stored and squeezed.
func TestLong(t *testing.T) {
	for _, n := range []int{api.MaxEntry + 1, api.MaxFile, 1 << 20} {
		s := strings.Repeat("m", n)
		askNone(t, api.ErrLong, plain("a", s))
		askNone(t, api.ErrLong, tight("a", s))
		askNone(t, api.ErrLong, plain("a", ""), tight("b", s), plain("c", ""))
	}
}

// P11.1: an archive above the bound.
func TestFull(t *testing.T) {
	most := strings.Repeat("m", api.MaxEntry)
	// Two entries with names of one byte take 22 + 2 * (30 + 46 + 2) beside their data.
	rest := strings.Repeat("r", api.MaxFile-api.MaxEntry-22-2*78)
	if b := askMake(t, plain("a", most), plain("b", rest)); len(b) != api.MaxFile {
		t.Errorf("%d bytes", len(b))
	}
	askFound(t, plain("a", most), plain("b", rest))
	askNone(t, api.ErrLong, plain("a", most), plain("b", rest+"r"))
	askNone(t, api.ErrLong, plain("aa", most), plain("b", rest))
	askNone(t, api.ErrLong, plain("a", most), plain("b", rest), plain("c", ""))
	askNone(t, api.ErrLong, plain("a", most), plain("b", most))
	var items []api.Item
	for i := range api.MaxEntries {
		items = append(items, plain(strconv.Itoa(i), most))
	}
	askNone(t, api.ErrLong, items...)
	askFound(t, plain("a", most), tight("b", most), tight("c", most))
}

// P11.1: of several faults the first item's is told, and of one item's its name, that it stands twice, its data; the archive's at last.
func TestOrder(t *testing.T) {
	long := strings.Repeat("m", api.MaxEntry+1)
	most := strings.Repeat("m", api.MaxEntry)
	askNone(t, api.ErrName, plain("/", long))
	askNone(t, api.ErrName, plain("", ""), plain("", ""))
	askNone(t, api.ErrTwice, plain("a", ""), plain("a", long))
	askNone(t, api.ErrLong, plain("a", long), plain("a", ""))
	askNone(t, api.ErrLong, plain("a", long), plain("/", ""))
	askNone(t, api.ErrName, plain("a", ""), plain("/", ""), plain("a", ""), plain("b", long))
	askNone(t, api.ErrTwice, plain("a", ""), plain("a", ""), plain("/", ""), plain("b", long))
	askNone(t, api.ErrName, plain("a", most), plain("b", most), plain("c", most), plain("/", ""))
	askNone(t, api.ErrTwice, plain("a", most), plain("b", most), plain("c", most), plain("a", ""))
}

// P11.2: the library reads what is made.
func TestByOthers(t *testing.T) {
	var c chance
	items := []api.Item{plain("a", c.text(100)), tight("b/c.class", c.text(5000)), plain("d/", ""), tight("e", ""), tight("f", c.text(1))}
	b := askMake(t, items...)
	z, err := zip.NewReader(bytes.NewReader(b), int64(len(b)))
	if err != nil || z.Comment != "" || len(z.File) != len(items) {
		t.Fatal(err)
	}
	for i, f := range z.File {
		it := items[i]
		if f.Name != it.Name || f.UncompressedSize64 != uint64(len(it.Data)) || f.CreatorVersion != 20 || f.ReaderVersion != 20 ||
			f.Flags != 0 || f.ExternalAttrs != 0 || len(f.Extra) != 0 || f.Comment != "" || f.ModifiedDate != 33 || f.ModifiedTime != 0 {
			t.Errorf("%+v", f.FileHeader)
		}
		r, err := f.Open()
		if err != nil {
			t.Fatal(err)
		}
		if x, err := io.ReadAll(r); err != nil || !bytes.Equal(x, it.Data) {
			t.Errorf("%q: % .60x, %v", f.Name, x, err)
		}
	}
}

// P11.2: data in which a second end record stands.
func TestSecondEnd(t *testing.T) {
	end := func(behind int) string {
		return "PK\x05\x06" + strings.Repeat("\x00", 16) + string([]byte{byte(behind), byte(behind >> 8)})
	}
	// Behind the data stand the central record, its name and the end record.
	const behind = 46 + 1 + 22
	b := askMake(t, plain("a", end(behind)))
	if records, e := archive.Directory(b); e != api.ErrEnd || len(records) != 0 {
		t.Errorf("Directory = %v, %d", records, e)
	}
	if x, e := entry.Find(b, "a"); e != api.ErrEnd || len(x) != 0 {
		t.Errorf("Find = %q, %d", x, e)
	}
	askFound(t, plain("a", end(behind-1)))
	askFound(t, plain("a", end(behind+1)))
	askFound(t, plain("a", end(behind)+"x"))
	askFound(t, tight("a", end(behind)+strings.Repeat("PK\x05\x06", 20)))
	// An archive in an archive is data like any other.
	askFound(t, plain("a", string(askMake(t, plain("a", "x")))))
}

// P11.2, P7: whatever is bundled is found as it was.
func TestThereAndBack(t *testing.T) {
	c := chance(11)
	for range 50 {
		var items []api.Item
		for i := range c.below(api.MaxEntries + 1) {
			it := plain(strings.Repeat("d/", c.below(4))+strconv.Itoa(i), c.text(c.below(1500)))
			it.Squeeze = c.below(2) == 0
			items = append(items, it)
		}
		if len(bytesOf(items)) > api.MaxFile {
			askNone(t, api.ErrLong, items...)
			continue
		}
		askFound(t, items...)
	}
}

// P1, P2: another byte anywhere makes the whole archive none, or leaves every entry that is answered as its record tells.
func TestOtherBytes(t *testing.T) {
	items := []api.Item{plain("a", "plain data"), tight("b", strings.Repeat("squeezed data ", 9)), plain("c/", "")}
	good := askMake(t, items...)
	for at := range good {
		for bit := range 8 {
			b := slices.Clone(good)
			b[at] ^= 1 << bit
			records, e := archive.Directory(b)
			for i, r := range records {
				x, e := entry.Find(b, r.Name)
				if e == api.OK && (len(x) != r.Size || int(crc32.ChecksumIEEE(x)) != r.Sum || !bytes.Equal(x, items[i].Data)) {
					t.Errorf("with the bit %d of the byte %d: %q is % x", bit, at, r.Name, x)
				}
			}
			if x, again := entry.Find(b, "a"); e != api.OK && (again != e || len(x) != 0) {
				t.Errorf("with the bit %d of the byte %d: %d and %d", bit, at, e, again)
			}
		}
	}
}

// P11.1: the same items make the same bytes, in new memory each time.
func TestApart(t *testing.T) {
	data := []byte("some data, some data, and room behind it")
	items := []api.Item{{Name: "a", Data: data[:20]}, {Name: "b", Data: data[:10], Squeeze: true}, {Name: "c", Data: data[5:9:9]}}
	first, e := Make(items[:2])
	if e != api.OK {
		t.Fatal(e)
	}
	kept := bytes.Clone(first)
	clear(first[:cap(first)])
	if string(data) != "some data, some data, and room behind it" || items[2].Name != "c" {
		t.Errorf("Make has made %q of what it was handed", data)
	}
	if again, e := Make(items[:2]); e != api.OK || !bytes.Equal(again, kept) {
		t.Errorf("the same items make % x, %d, and % x", again, e, kept)
	}
	first, _ = Make(items[:2])
	clear(data)
	if !bytes.Equal(first, kept) {
		t.Error("what was handed in was kept")
	}
}
