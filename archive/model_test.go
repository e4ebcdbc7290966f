package archive

import (
	"archive/zip"
	"bytes"
	"encoding/binary"
	"fmt"
	"hash/crc32"
	"slices"
	"strings"
	"testing"

	"samovar/api"
)

// The headers as the chapter tells them, number by number.
type (
	endHeader struct {
		Signature              uint32
		Disk, First, Here, All uint16
		Size, From             uint32
		Comment                uint16
	}
	repeated struct {
		Version, Flags, Method, Time, Date uint16
		Sum, Packed, Size                  uint32
		Name                               uint16
	}
	centralHeader struct {
		Signature            uint32
		Maker                uint16
		Repeated             repeated
		Extra, Comment, Disk uint16
		Inside               uint16
		Outside, Head        uint32
	}
	header struct {
		Signature uint32
		Repeated  repeated
		Extra     uint16
	}
)

// read reads a header, if the bytes from a place up to another one have it.
func read(b []byte, from, to int, header any) bool {
	if from < 0 || from > to || to > len(b) {
		return false
	}
	return binary.Read(bytes.NewReader(b[from:to]), binary.LittleEndian, header) == nil
}

// modelName is Name, asked part by part.
func modelName(s string) bool {
	if len(s) < 1 || len(s) > 64 || bytes.IndexByte([]byte(s), 0) >= 0 || bytes.IndexByte([]byte(s), 0x5c) >= 0 {
		return false
	}
	parts := strings.Split(s, "/")
	for i, p := range parts {
		if p == "." || p == ".." || p == "" && (i == 0 || i < len(parts)-1) {
			return false
		}
	}
	return true
}

// modelEnd is the end record and where it stands.
func modelEnd(b []byte) (h endHeader, p int, e api.Errno) {
	p = -1
	for at := range b {
		var x endHeader
		if b[at] == 'P' && read(b, at, len(b), &x) && x.Signature == 0x06054b50 && at+22+int(x.Comment) == len(b) {
			if p >= 0 {
				return h, 0, api.ErrEnd
			}
			h, p = x, at
		}
	}
	switch {
	case p < 0:
		return h, 0, api.ErrEnd
	case h.Disk != 0, h.First != 0, h.Here != h.All, h.All > 64, int(h.From)+int(h.Size) != p:
		return h, 0, api.ErrDisk
	}
	return h, p, api.OK
}

// model is Directory, asked as the chapter tells it.
func model(b []byte) ([]api.Record, api.Errno) {
	if len(b) > 65536 {
		return nil, api.ErrLong
	}
	end, p, e := modelEnd(b)
	if e != api.OK {
		return nil, e
	}
	at, dir := int(end.From), int(end.From)
	var rows []centralHeader
	var names []string
	for range end.All {
		var c centralHeader
		if !read(b, at, p, &c) || c.Signature != 0x02014b50 {
			return nil, api.ErrRecord
		}
		next := at + 46 + int(c.Repeated.Name) + int(c.Extra) + int(c.Comment)
		if next > p || c.Disk != 0 {
			return nil, api.ErrRecord
		}
		if c.Repeated.Version > 20 || c.Repeated.Flags|0x806 != 0x806 || c.Repeated.Method != 0 && c.Repeated.Method != 8 {
			return nil, api.ErrFlags
		}
		name := string(b[at+46 : at+46+int(c.Repeated.Name)])
		if !modelName(name) {
			return nil, api.ErrName
		}
		if slices.Contains(names, name) {
			return nil, api.ErrTwice
		}
		rows, names, at = append(rows, c), append(names, name), next
	}
	if at != p {
		return nil, api.ErrRecord
	}
	return modelLocals(b, dir, rows, names)
}

// modelLocals asks the local headers; which bytes are taken is told byte by byte.
func modelLocals(b []byte, dir int, rows []centralHeader, names []string) ([]api.Record, api.Errno) {
	var records []api.Record
	taken := make([]int, len(b))
	for i, c := range rows {
		var h header
		head := int(c.Head)
		if !read(b, head, dir, &h) || h.Signature != 0x04034b50 || h.Repeated != c.Repeated {
			return nil, api.ErrLocal
		}
		at := head + 30 + len(names[i]) + int(h.Extra)
		if at+int(h.Repeated.Packed) > dir || !bytes.HasPrefix(b[head+30:], []byte(names[i])) {
			return nil, api.ErrLocal
		}
		for k := head; k < at+int(h.Repeated.Packed); k++ {
			taken[k]++
		}
		r := c.Repeated
		records = append(records, api.Record{Name: names[i], Method: int(r.Method), Packed: int(r.Packed), Size: int(r.Size), Sum: int(r.Sum), At: at, Head: head})
	}
	if slices.ContainsFunc(taken, func(n int) bool { return n > 1 }) {
		return nil, api.ErrOverlap
	}
	return records, api.OK
}

// askModel asks for what the model answers, and that P9.2 holds of it.
func askModel(t *testing.T, b []byte) api.Errno {
	t.Helper()
	row, e := Directory(b)
	want, wantError := model(b)
	if e != wantError || !slices.Equal(row, want) {
		t.Fatalf("Directory(% x) = %+v, %d, not %+v, %d", b, row, e, want, wantError)
	}
	if e != api.OK {
		return e
	}
	for i, r := range row {
		if !Name(r.Name) {
			t.Fatalf("% x has the name %q", b, r.Name)
		}
		if r.Head < 0 || r.At < r.Head+31 || r.Packed < 0 || r.At+r.Packed > len(b)-22-47*len(row) {
			t.Fatalf("% x has the entry %+v", b, r)
		}
		for _, o := range row[:i] {
			if o.Name == r.Name || o.Head < r.At+r.Packed && r.Head < o.At+o.Packed {
				t.Fatalf("% x has the entries %+v, %+v", b, o, r)
			}
		}
	}
	return e
}

// someParts are entries of many kinds.
func someParts(c *chance) []part {
	names := []string{"a", "b", "a/", "a/b", "c.class", "META-INF/MANIFEST.MF", "\xff", "..x"}
	var parts []part
	for range c.below(4) {
		p := part{name: names[c.below(len(names))], method: 8 * c.below(2), version: c.below(21), flags: 2 * c.below(4), time: c.below(65536)}
		if c.below(8) == 0 {
			p.name += "/"
		}
		p.packed = string(c.some(c.below(5)))
		p.size, p.sum = c.below(1<<24), c.below(1<<24)
		if c.below(2) == 0 {
			p.gap, p.localExtra, p.centralExtra, p.comment = string(c.some(c.below(4))), string(c.some(c.below(3))), string(c.some(c.below(3))), string(c.some(c.below(3)))
		}
		parts = append(parts, p)
	}
	return parts
}

// disturb makes something of an archive another thing.
func disturb(c *chance, l *laid) {
	small := []int{0, 1, 2, 3, 8, 20, 21, 46, 255, 0xffff}
	pick := func(row []int) int { return row[c.below(len(row))] }
	switch k := c.below(9); {
	case k == 0:
		l.b[c.below(len(l.b))] ^= 1 << c.below(8)
	case k == 1:
		l.b = append(l.b[:c.below(len(l.b))], l.b[c.below(len(l.b)):]...)
	case k == 2:
		l.put(l.end+4+c.below(18), 1, c.below(256))
	case k == 3:
		l.put(l.end+12, 4, l.end-l.dir+c.below(5)-2)
	case len(l.heads) == 0:
	case k == 4:
		l.put(pick(l.central)+42, 4, pick(l.heads)+c.below(3)-1)
	case k == 5:
		i := c.below(len(l.heads))
		l.both(i, 6+2*c.below(3), 2, pick(small))
	case k == 6:
		l.both(c.below(len(l.heads)), 20, 4, c.below(90))
	case k == 7:
		l.put(pick(l.heads)+28, 2, c.below(60))
	default:
		l.put(pick(l.central)+26+2*c.below(10), 2, pick(small))
	}
}

// P9.1, P9.2: archives in which something may be wrong, against the model.
func TestModel(t *testing.T) {
	var c chance
	met := map[api.Errno]int{}
	for range 60000 {
		l := lay(string(c.some(c.below(4))), string(c.some(c.below(4))), someParts(&c)...)
		if c.below(4) == 0 {
			met[askModel(t, l.b)]++
		}
		length := len(l.b)
		disturb(&c, l)
		if len(l.b) == length && c.below(3) == 0 {
			disturb(&c, l)
		}
		met[askModel(t, l.b)]++
	}
	for _, e := range []api.Errno{api.OK, api.ErrEnd, api.ErrDisk, api.ErrRecord, api.ErrFlags, api.ErrName, api.ErrTwice, api.ErrLocal, api.ErrOverlap} {
		if met[e] < 50 {
			t.Errorf("the error %d was met %d times", e, met[e])
		}
	}
}

// P9.1: each byte of an archive is each other byte, against the model.
func TestModelBytes(t *testing.T) {
	for _, l := range []*laid{three(), lay("", "", part{name: "a", packed: "p"}, part{name: "b"})} {
		for at := range l.b {
			was := l.b[at]
			for v := range 256 {
				l.b[at] = byte(v)
				askModel(t, l.b)
			}
			l.b[at] = was
		}
	}
}

// P9.1: names of few bytes, against the model.
func TestModelNames(t *testing.T) {
	const letters = "a./\\\x00\xff"
	row := []string{""}
	for range 6 {
		var longer []string
		for _, s := range row {
			if Name(s) != modelName(s) {
				t.Fatalf("Name(%q) = %t", s, Name(s))
			}
			for _, c := range []byte(letters) {
				longer = append(longer, s+string([]byte{c}))
			}
		}
		row = longer
	}
}

// zipped is an archive as the library writes it, of stored entries whose sizes are known ahead.
func zipped(t *testing.T, texts ...string) []byte {
	t.Helper()
	var b bytes.Buffer
	w := zip.NewWriter(&b)
	for i, s := range texts {
		h := &zip.FileHeader{Name: fmt.Sprint("f", i), Comment: "said", CRC32: crc32.ChecksumIEEE([]byte(s)), CompressedSize64: uint64(len(s)), UncompressedSize64: uint64(len(s)), ReaderVersion: 20}
		f, err := w.CreateRaw(h)
		if err != nil {
			t.Fatal(err)
		}
		f.Write([]byte(s))
	}
	w.SetComment("all")
	w.Close()
	return b.Bytes()
}

// P9.1: what the library writes is a directory, and the library reads what is laid as it is read here.
func TestLibrary(t *testing.T) {
	for _, b := range [][]byte{zipped(t), zipped(t, ""), zipped(t, "one", "", "three"), three().b, many(64).b} {
		r, err := zip.NewReader(bytes.NewReader(b), int64(len(b)))
		if err != nil {
			t.Fatal(err)
		}
		var want []api.Record
		for _, f := range r.File {
			at, err := f.DataOffset()
			if err != nil {
				t.Fatal(err)
			}
			want = append(want, api.Record{Name: f.Name, Method: int(f.Method), Packed: int(f.CompressedSize64), Size: int(f.UncompressedSize64), Sum: int(f.CRC32), At: int(at)})
		}
		row, e := Directory(b)
		for i := range row {
			row[i].Head = 0
		}
		if e != api.OK || !slices.Equal(row, want) {
			t.Errorf("Directory(% x) = %+v, %d, not %+v", b, row, e, want)
		}
	}
}

// P9.1: entries whose sizes are told behind them are refused.
func TestLibraryStreams(t *testing.T) {
	var b bytes.Buffer
	w := zip.NewWriter(&b)
	f, _ := w.Create("a")
	f.Write([]byte("x"))
	w.Close()
	askError(t, b.Bytes(), api.ErrFlags)
}

// P9.1: what is answered is the caller's, and what is handed in too.
func TestApart(t *testing.T) {
	l := three()
	spare := append(slices.Clone(l.b), "spare"...)
	row, _ := Directory(spare[:len(l.b)])
	if string(spare) != string(l.b)+"spare" {
		t.Error("Directory has changed what it was handed")
	}
	clear(spare)
	if !slices.Equal(row, threeRecords()) {
		t.Errorf("the records are %+v", row)
	}
	clear(row[:cap(row)])
	ask(t, l.b, threeRecords()...)
}

// P9.1: archives of many bytes that look like much.
func TestWorst(t *testing.T) {
	for _, s := range []string{"PK\x05\x06", "PK\x01\x02", "PK\x03\x04", "P", "\x00", "\xff"} {
		b := []byte(strings.Repeat(s, api.MaxFile/len(s)))
		if e := askModel(t, b); e != api.ErrEnd {
			t.Errorf("%q again and again: %d", s, e)
		}
		b = append(b[:60000], three().b...)
		askModel(t, b)
	}
}
