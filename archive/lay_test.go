package archive

import (
	"encoding/binary"
	"slices"
	"testing"

	"samovar/api"
)

// chance tells numbers that are always the same ones.
type chance uint32

func (c *chance) below(n int) int {
	*c = *c*1664525 + 1013904223
	return int(uint32(*c)>>8) % n
}

func (c *chance) some(n int) []byte {
	b := make([]byte, n)
	for i := range b {
		b[i] = byte(c.below(256))
	}
	return b
}

// part is an entry that is to be laid, with what may stand around it.
type part struct {
	name, packed           string
	method, size, sum      int
	version, flags         int
	time, date             int
	gap                    string // ahead of the local header
	localExtra             string
	centralExtra, comment  string
	maker, inside, outside int // what nobody asks of a central record
}

// laid is an archive and where its parts stand.
type laid struct {
	b              []byte
	heads, central []int
	dir, end       int
}

func (l *laid) add(s string) { l.b = append(l.b, s...) }

func (l *laid) two(v ...int) {
	for _, x := range v {
		l.b = binary.LittleEndian.AppendUint16(l.b, uint16(x))
	}
}

func (l *laid) four(v ...int) {
	for _, x := range v {
		l.b = binary.LittleEndian.AppendUint32(l.b, uint32(x))
	}
}

// lay lays an archive in which nothing is wrong, with a gap ahead of the directory and a comment behind all.
func lay(gap, comment string, parts ...part) *laid {
	l := &laid{}
	for _, p := range parts {
		l.add(p.gap)
		l.heads = append(l.heads, len(l.b))
		l.add("PK\x03\x04")
		l.shared(p)
		l.two(len(p.localExtra))
		l.add(p.name + p.localExtra + p.packed)
	}
	l.add(gap)
	l.dir = len(l.b)
	for i, p := range parts {
		l.central = append(l.central, len(l.b))
		l.add("PK\x01\x02")
		l.two(p.maker)
		l.shared(p)
		l.two(len(p.centralExtra), len(p.comment), 0, p.inside)
		l.four(p.outside, l.heads[i])
		l.add(p.name + p.centralExtra + p.comment)
	}
	l.end = len(l.b)
	l.add("PK\x05\x06")
	l.two(0, 0, len(parts), len(parts))
	l.four(l.end-l.dir, l.dir)
	l.two(len(comment))
	l.add(comment)
	return l
}

// shared lays what both headers of an entry have.
func (l *laid) shared(p part) {
	l.two(p.version, p.flags, p.method, p.time, p.date)
	l.four(p.sum, len(p.packed), p.size)
	l.two(len(p.name))
}

// put puts a number of n bytes at a place.
func (l *laid) put(at, n, v int) *laid {
	for i := range n {
		l.b[at+i] = byte(v >> (8 * i))
	}
	return l
}

// both puts a number where the headers of an entry have it, at its place in the central record.
func (l *laid) both(i, at, n, v int) *laid {
	return l.put(l.central[i]+at, n, v).put(l.heads[i]+at-2, n, v)
}

// insert lays bytes at a place, and tells the end record how the directory stands then.
func (l *laid) insert(at int, s string) *laid {
	l.b = slices.Insert(l.b, at, []byte(s)...)
	l.end += len(s)
	if at < l.dir {
		l.dir += len(s)
	}
	return l.put(l.end+12, 4, l.end-l.dir).put(l.end+16, 4, l.dir)
}

// count tells the end record how many entries there are.
func (l *laid) count(n int) *laid { return l.put(l.end+8, 2, n).put(l.end+10, 2, n) }

// three is an archive that has all that may stand in one.
func three() *laid {
	return lay("ahead of the directory", "behind all",
		part{name: "a", packed: "xyz", size: 3, sum: 0xeb8eba67, version: 10, gap: "PK first"},
		part{name: "b/c.class", packed: "\x4b\x04\x00", method: 8, size: 1, sum: 0xe8b7be43, version: 20, flags: 0x806,
			time: 0x1234, date: 0x5678, localExtra: "local", centralExtra: "central", comment: "said", maker: 0xffff, inside: 0xffff, outside: 0xffffffff},
		part{name: "d/", version: 0, flags: 2, gap: "between"})
}

// ask asks for records.
func ask(t *testing.T, b []byte, want ...api.Record) {
	t.Helper()
	before := slices.Clone(b)
	row, e := Directory(b)
	if e != api.OK || !slices.Equal(row, want) {
		t.Errorf("Directory(% x) = %+v, %d, not %+v", b, row, e, want)
	}
	if !slices.Equal(b, before) {
		t.Errorf("Directory has changed % x to % x", before, b)
	}
}

// askError asks for an error and nothing else.
func askError(t *testing.T, b []byte, want api.Errno) {
	t.Helper()
	if row, e := Directory(b); e != want || len(row) != 0 {
		t.Errorf("Directory(% x) = %+v, %d, not %d", b, row, e, want)
	}
}

// askNames asks which entries an archive has.
func askNames(t *testing.T, b []byte, want ...string) {
	t.Helper()
	row, e := Directory(b)
	var names []string
	for _, r := range row {
		names = append(names, r.Name)
	}
	if e != api.OK || !slices.Equal(names, want) {
		t.Errorf("Directory(% x) has the names %q, %d, not %q", b, names, e, want)
	}
}
