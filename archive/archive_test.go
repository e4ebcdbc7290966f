package archive

import (
	"strconv"
	"strings"
	"testing"

	"samovar/api"
)

// threeRecords are the records of three.
func threeRecords() []api.Record {
	return []api.Record{
		{Name: "a", Packed: 3, Size: 3, Sum: 0xeb8eba67, At: 8 + 31, Head: 8},
		{Name: "b/c.class", Method: 8, Packed: 3, Size: 1, Sum: 0xe8b7be43, At: 42 + 30 + 9 + 5, Head: 42},
		{Name: "d/", At: 96 + 32, Head: 96},
	}
}

// P9.1: the chapter's examples.
func TestExamples(t *testing.T) {
	b := append([]byte{0x50, 0x4b, 5, 6}, make([]byte, 18)...)
	ask(t, b)
	askError(t, append(b, 0), api.ErrEnd)
	askError(t, nil, api.ErrEnd)
	b[4] = 1
	askError(t, b, api.ErrDisk)
}

// P9.1: all that a record tells, wherever it stands.
func TestRecords(t *testing.T) {
	ask(t, three().b, threeRecords()...)
	ask(t, lay("", "", part{name: "n", sum: 0xffffffff, size: 0xfffffffe}).b, api.Record{Name: "n", Size: 0xfffffffe, Sum: 0xffffffff, At: 31})
}

// P9.1: the order is the directory's, wherever the entries lie.
func TestOrder(t *testing.T) {
	l := three()
	first, last := string(l.b[l.central[0]:l.central[1]]), string(l.b[l.central[2]:l.end])
	middle := string(l.b[l.central[1]:l.central[2]])
	copy(l.b[l.dir:], last+middle+first)
	r := threeRecords()
	ask(t, l.b, r[2], r[1], r[0])
}

// P9.1: which names are names.
func TestName(t *testing.T) {
	long := strings.Repeat("n", api.MaxName)
	deep := strings.Repeat("a/", api.MaxName/2)
	for _, s := range []string{"a", "a/b", "a/", "a/b/", "...", "a/...", ".a", "a.", "a/.b/..c/d..", " ", "a /b", "\x01", "\xff", "\xc3(/\xff/", "ä/ö", "META-INF/MANIFEST.MF", "a:b", "~", ".../", long, long[1:] + "/", deep, long[2:] + "ä"} {
		if !Name(s) {
			t.Errorf("%q is no name", s)
		}
	}
	for _, s := range []string{"", "/", "//", "/a", "/a/", "a//", "a//b", "//a", ".", "..", "./", "../", "../a", "./a", "a/.", "a/..", "a/./", "a/../", "a/./b", "a/../b", "a/b/..", "/.", "\x00", "a\x00", "\x00a", "a\x00b", "a/\x00", "\\", "a\\b", "a\\", "\\a", "a/\\", "\xff\\", "\xff\x00", "aaaaaaaa\\\xff", "aaaaaaaa\xff\x00", long + "n", long + "/", long[1:] + "ä", deep + "a", strings.Repeat("a/", 1000), strings.Repeat("n", 70000)} {
		if Name(s) {
			t.Errorf("%q is a name", s)
		}
	}
}

// P9.1: each byte in a name, alone and between others.
func TestNameBytes(t *testing.T) {
	for c := range 256 {
		s := string([]byte{byte(c)})
		if want := c != 0 && c != '\\' && c != '/' && c != '.'; Name(s) != want {
			t.Errorf("Name(%q) = %t", s, !want)
		}
		s = "a" + s + "b"
		if want := c != 0 && c != '\\'; Name(s) != want {
			t.Errorf("Name(%q) = %t", s, !want)
		}
	}
}

// P9.1: how many bytes an archive may have.
func TestLong(t *testing.T) {
	plain := len(three().b)
	gap := strings.Repeat("g", api.MaxFile-plain)
	for _, more := range []string{"", "g", gap} {
		l := three()
		l.insert(l.dir-1, gap+more)
		if more == "" {
			ask(t, l.b, threeRecords()...)
		} else {
			askError(t, l.b, api.ErrLong)
		}
	}
	askError(t, make([]byte, api.MaxFile), api.ErrEnd)
	askError(t, make([]byte, api.MaxFile+1), api.ErrLong)
}

// P9.1: an end record is there, whole, and once.
func TestEnd(t *testing.T) {
	good := three()
	for n := range len(good.b) {
		askError(t, good.b[:n], api.ErrEnd)
	}
	for _, s := range []string{"\x00", "PK", string(good.b[:30])} {
		askError(t, []byte(string(good.b)+s), api.ErrEnd)
	}
	for at := range 4 {
		for bit := range 8 {
			l := three()
			l.b[l.end+at] ^= 1 << bit
			askError(t, l.b, api.ErrEnd)
		}
	}
	for _, v := range []int{0, 9, 11, 10 + 256, 10 << 8, 0xffff} {
		askError(t, three().put(good.end+20, 2, v).b, api.ErrEnd)
	}
	askError(t, []byte("PK\x05\x06"), api.ErrEnd)
	askError(t, make([]byte, 22), api.ErrEnd)
}

// second is an end record that so many bytes follow.
func second(behind int) string {
	l := &laid{}
	l.add("PK\x05\x06" + strings.Repeat("\x00", 16))
	l.two(behind)
	return string(l.b)
}

// P9.1: two end records are refused wherever they stand, and what is none is no hindrance.
func TestTwoEnds(t *testing.T) {
	for at := range 40 {
		for _, off := range []int{-1, 0, 1} {
			tail := strings.Repeat("t", 40-at)
			comment := strings.Repeat("c", at) + second(len(tail)+off) + tail
			l := lay("", comment, part{name: "a"})
			if off == 0 {
				askError(t, l.b, api.ErrEnd)
			} else {
				askNames(t, l.b, "a")
			}
		}
	}
	for _, off := range []int{-1, 0, 1} {
		// In an entry's bytes: behind it are a central record and the end record.
		end := second(47 + 22 + off)
		l := lay("", "", part{name: "a", packed: end, size: 22})
		if off == 0 {
			askError(t, l.b, api.ErrEnd)
		} else {
			askNames(t, l.b, "a")
		}
		// Ahead of all entries.
		l = lay("", "", part{name: "a", gap: second(31 + 47 + 22 + off)})
		if off == 0 {
			askError(t, l.b, api.ErrEnd)
		} else {
			askNames(t, l.b, "a")
		}
	}
	// The second one is the better one: both count.
	askError(t, lay("", second(0)).b, api.ErrEnd)
	// The last place at which 22 bytes stand, and the first at which they don't.
	askNames(t, lay("", second(0)[:21], part{name: "a"}).b, "a")
}

// P9.1: what the end record tells.
func TestDisk(t *testing.T) {
	end := three().end
	for _, at := range []int{4, 6} {
		for _, v := range []int{1, 256, 0xffff} {
			askError(t, three().put(end+at, 2, v).b, api.ErrDisk)
		}
	}
	for _, at := range []int{8, 10} {
		for _, v := range []int{0, 2, 4, 3 + 256, 0xffff} {
			askError(t, three().put(end+at, 2, v).b, api.ErrDisk)
		}
	}
	dir := three().dir
	for _, v := range []int{-1, 1, 256, 65536, 1 << 31, -1 << 31} {
		askError(t, three().put(end+12, 4, end-dir+v).b, api.ErrDisk)
		askError(t, three().put(end+16, 4, dir+v).b, api.ErrDisk)
	}
	// Both together are below 2^32 but by wrapping round.
	askError(t, three().put(end+12, 4, end-dir+1<<31).put(end+16, 4, dir+1<<31).b, api.ErrDisk)
	askError(t, three().put(end+12, 4, -1).put(end+16, 4, end+1).b, api.ErrDisk)
}

// many is an archive of so many entries.
func many(n int) *laid {
	var parts []part
	for i := range n {
		parts = append(parts, part{name: strconv.Itoa(i)})
	}
	return lay("", "", parts...)
}

// P9.1: how many entries there may be.
func TestMany(t *testing.T) {
	for _, n := range []int{0, 1, 2, 63, 64} {
		if row, e := Directory(many(n).b); len(row) != n || e != api.OK {
			t.Errorf("%d of %d entries: %d", len(row), n, e)
		}
	}
	for _, n := range []int{65, 66, 128} {
		askError(t, many(n).b, api.ErrDisk)
	}
	// The number is asked ahead of the records.
	askError(t, three().count(65).b, api.ErrDisk)
	askError(t, three().count(0xffff).b, api.ErrDisk)
	askError(t, three().count(64).b, api.ErrRecord)
}

// P9.1: how a central record is laid.
func TestCentral(t *testing.T) {
	for i := range 3 {
		at := three().central[i]
		for k := range 4 {
			askError(t, three().put(at+k, 1, 'Q').b, api.ErrRecord)
		}
		askError(t, three().put(at, 4, 0x04034b50).b, api.ErrRecord)
		askError(t, three().put(at, 4, 0x06054b50).b, api.ErrRecord)
		for _, v := range []int{1, 256, 0xffff} {
			askError(t, three().put(at+34, 2, v).b, api.ErrRecord)
		}
		// Name, extra and comment, each too long for the directory.
		for _, k := range []int{28, 30, 32} {
			askError(t, three().put(at+k, 2, 0xffff).b, api.ErrRecord)
			askError(t, three().put(at+k, 2, 400).b, api.ErrRecord)
		}
	}
	last := three().central[2]
	for _, k := range []int{30, 32} {
		askError(t, three().put(last+k, 2, 1).b, api.ErrRecord)
	}
	askError(t, three().put(last+28, 2, 3).b, api.ErrRecord)
}

// P9.1: records that end ahead of the directory's end, or behind it.
func TestCentralEnd(t *testing.T) {
	askError(t, three().count(2).b, api.ErrRecord)
	askError(t, three().count(0).b, api.ErrRecord)
	askError(t, three().count(4).b, api.ErrRecord)
	for _, s := range []string{"x", strings.Repeat("\x00", 45), strings.Repeat("\x00", 46)} {
		l := three()
		askError(t, l.insert(l.end, s).b, api.ErrRecord)
		askError(t, l.count(4).b, api.ErrRecord)
	}
	// The last record has 45 of its bytes within the directory, and 46 of 48.
	for _, n := range []int{0, 1, 45, 46, 47} {
		l := three()
		l.b = append(l.b[:l.central[2]+n:l.central[2]+n], l.b[l.end:]...)
		l.end = l.central[2] + n
		askError(t, l.insert(0, "").b, api.ErrRecord)
	}
	// Bytes of the directory ahead of its first record.
	l := three()
	askError(t, l.put(l.end+12, 4, l.end-l.dir+1).put(l.end+16, 4, l.dir-1).b, api.ErrRecord)
	askError(t, l.put(l.end+12, 4, l.end-l.dir-1).put(l.end+16, 4, l.dir+1).b, api.ErrRecord)
	// A directory without bytes, at its end.
	ask(t, l.count(0).put(l.end+12, 4, 0).put(l.end+16, 4, l.end).b)
}

// P9.1: a central record whose bytes just fill the directory.
func TestCentralFull(t *testing.T) {
	p := part{name: "a", centralExtra: strings.Repeat("e", 30000), comment: strings.Repeat("c", 30000)}
	askNames(t, lay("", "", p).b, "a")
	for _, k := range []int{30, 32} {
		l := lay("", "", p)
		askError(t, l.put(l.central[0]+k, 2, 30001).b, api.ErrRecord)
		askError(t, l.put(l.central[0]+k, 2, 29999).b, api.ErrRecord)
	}
}

// P9.1: version, flags and method.
func TestFlags(t *testing.T) {
	for i := range 3 {
		for v := range 512 {
			if l := three().both(i, 6, 2, v); v <= 20 {
				askNames(t, l.b, "a", "b/c.class", "d/")
			} else {
				askError(t, l.b, api.ErrFlags)
			}
		}
		askError(t, three().both(i, 6, 2, 20<<8).b, api.ErrFlags)
		askError(t, three().both(i, 6, 2, 0xffff).b, api.ErrFlags)
		for bit := range 16 {
			if l := three().both(i, 8, 2, 1<<bit); bit == 1 || bit == 2 || bit == 11 {
				askNames(t, l.b, "a", "b/c.class", "d/")
			} else {
				askError(t, l.b, api.ErrFlags)
				askError(t, three().both(i, 8, 2, 1<<bit|0x806).b, api.ErrFlags)
			}
		}
		for _, v := range []int{1, 2, 7, 9, 12, 14, 99, 256, 8 << 8, 0xffff} {
			askError(t, three().both(i, 10, 2, v).b, api.ErrFlags)
		}
		for _, v := range []int{0, 8} {
			row, e := Directory(three().both(i, 10, 2, v).b)
			if e != api.OK || row[i].Method != v {
				t.Errorf("%+v, %d", row, e)
			}
		}
	}
}

// P9.1: names that aren't names, and names that stand twice.
func TestNames(t *testing.T) {
	for _, s := range []string{"", "/a", "a\x00", "a\\b", "..", strings.Repeat("n", 65), strings.Repeat("n", 30000)} {
		askError(t, lay("", "", part{name: "a"}, part{name: s}).b, api.ErrName)
	}
	long := strings.Repeat("n", 64)
	askNames(t, lay("", "", part{name: long}, part{name: long[1:]}).b, long, long[1:])
	askNames(t, lay("", "", part{name: "\xff\xfe"}, part{name: "a/"}, part{name: "A/"}).b, "\xff\xfe", "a/", "A/")
	askError(t, lay("", "", part{name: "a"}, part{name: "b"}, part{name: "a"}).b, api.ErrTwice)
	askError(t, lay("", "", part{name: "a"}, part{name: "a"}).b, api.ErrTwice)
	// One entry that two records tell.
	l := lay("", "", part{name: "a"})
	l.insert(l.end, string(l.b[l.dir:l.end]))
	askError(t, l.count(2).b, api.ErrTwice)
	askNames(t, lay("", "", part{name: "a"}, part{name: "a/"}, part{name: "aa"}).b, "a", "a/", "aa")
}

// P9.1: where a local header is.
func TestLocalPlace(t *testing.T) {
	for i := range 3 {
		l := three()
		at := l.central[i] + 42
		for _, v := range []int{0, l.heads[i] - 1, l.heads[i] + 1, l.dir - 29, l.dir - 30, l.dir - 1, l.dir, l.dir + 1, l.end, len(l.b) - 1, len(l.b), 65536, 1<<31 - 1, 1 << 31, -1, -30} {
			askError(t, three().put(at, 4, v).b, api.ErrLocal)
		}
		for k := range 4 {
			askError(t, three().put(l.heads[i]+k, 1, 'Q').b, api.ErrLocal)
		}
		askError(t, three().put(l.heads[i], 4, 0x02014b50).b, api.ErrLocal)
		askError(t, three().put(l.heads[i], 4, 0x06054b50).b, api.ErrLocal)
	}
	// A local header that stands behind the directory, and one within it.
	inside := lay("", "", part{name: "a"})
	l := lay("", string(inside.b[:31]), part{name: "a"})
	askError(t, l.put(l.central[0]+42, 4, l.end+22).b, api.ErrLocal)
	l = lay("", "", part{name: "a", comment: string(inside.b[:31])})
	askError(t, l.put(l.central[0]+42, 4, l.dir+47).b, api.ErrLocal)
}

// P9.1: each byte that the local header has as the central record has it.
func TestLocalSame(t *testing.T) {
	for i := range 3 {
		head, name := three().heads[i], len(threeRecords()[i].Name)
		for k := 4; k < 28; k++ {
			for _, bit := range []byte{1, 2, 16, 128} {
				l := three()
				l.b[head+k] ^= bit
				askError(t, l.b, api.ErrLocal)
			}
		}
		for k := range name {
			l := three()
			l.b[head+30+k] ^= 1
			askError(t, l.b, api.ErrLocal)
		}
	}
}

// P9.1: times, dates and sums may be any, if both headers have them.
func TestAnyTime(t *testing.T) {
	for i := range 3 {
		for _, v := range []int{0, 1, -1, 0x8000} {
			r := threeRecords()
			ask(t, three().both(i, 12, 2, v).both(i, 14, 2, ^v).b, r...)
			r[i].Sum, r[i].Size = int(uint32(v)), int(uint32(^v))
			ask(t, three().both(i, 16, 4, v).both(i, 24, 4, ^v).b, r...)
		}
	}
}

// P9.1: where an entry's bytes end.
func TestLocalEnd(t *testing.T) {
	for room := range 10 {
		for size := range 12 {
			l := lay(strings.Repeat("g", room), "", part{name: "abc", packed: "xyz"})
			l.both(0, 20, 4, size)
			if size <= 3+room {
				ask(t, l.b, api.Record{Name: "abc", Packed: size, At: 33})
			} else {
				askError(t, l.b, api.ErrLocal)
			}
			l.both(0, 20, 4, 3).put(28, 2, size)
			if size <= room {
				ask(t, l.b, api.Record{Name: "abc", Packed: 3, At: 33 + size})
			} else {
				askError(t, l.b, api.ErrLocal)
			}
		}
	}
	for _, v := range []int{65535, 65536, 1<<31 - 1, 1 << 31, -1, -4} {
		askError(t, three().both(0, 20, 4, v).b, api.ErrLocal)
	}
	askError(t, three().put(three().heads[0]+28, 2, 0xffff).b, api.ErrLocal)
	// The header alone is ahead of the directory, its name isn't.
	l := lay("", "", part{name: "abc"})
	l.b = append(l.b[:30:30], l.b[33:]...)
	l.dir, l.end = 30, l.end-3
	askError(t, l.insert(30, "").b, api.ErrLocal)
}

// P9.2: entries that lie on one another.
func TestOverlap(t *testing.T) {
	inner := lay("", "", part{name: "in", packed: "xyz"})
	entry := string(inner.b[:inner.dir])
	for ahead := range 4 {
		for behind := range 4 {
			l := lay("", "", part{name: "in", packed: "xyz"}, part{name: "out", packed: strings.Repeat("a", ahead) + entry + strings.Repeat("b", behind)})
			askNames(t, l.b, "in", "out")
			askError(t, l.put(l.central[0]+42, 4, l.heads[1]+33+ahead).b, api.ErrOverlap)
			l = lay("", "", part{name: "out", packed: strings.Repeat("a", ahead) + entry + strings.Repeat("b", behind)}, part{name: "in", packed: "xyz"})
			askError(t, l.put(l.central[1]+42, 4, l.heads[0]+33+ahead).b, api.ErrOverlap)
		}
	}
	// The inner one lies in what nobody calls packed bytes: in the extra of the outer one.
	l := lay("", "", part{name: "out", localExtra: entry}, part{name: "in", packed: "xyz"})
	askError(t, l.put(l.central[1]+42, 4, l.heads[0]+33).b, api.ErrOverlap)
}

// P9.2: entries that touch are apart, those that have one byte in common aren't.
func TestTouch(t *testing.T) {
	for i := range 2 {
		l := lay("", "", part{name: "a", packed: "xyz"}, part{name: "b", packed: "xyz"}, part{name: "c"})
		askNames(t, l.b, "a", "b", "c")
		l.both(i, 20, 4, 4)
		askError(t, l.b, api.ErrOverlap)
		l.both(i, 20, 4, 3).put(l.heads[i]+28, 2, 1)
		askError(t, l.b, api.ErrOverlap)
		l = lay("", "", part{name: "a", packed: "xyz"}, part{name: "b", packed: "xyz", gap: "g"}, part{name: "c", gap: "g"})
		askNames(t, l.both(i, 20, 4, 4).b, "a", "b", "c")
		askError(t, l.both(i, 20, 4, 5).b, api.ErrOverlap)
	}
	// One byte, from the last entry of the file to the first one of the directory.
	l := lay("", "", part{name: "c"}, part{name: "a", packed: "xyz"}, part{name: "b", packed: "xyz"})
	head := l.heads
	l.put(l.central[0]+42, 4, head[0])
	askError(t, l.both(1, 20, 4, 4).b, api.ErrOverlap)
	// Not neighbours: a long one goes over one whole entry into the next.
	l = lay("", "", part{name: "a"}, part{name: "b"}, part{name: "c"})
	askError(t, l.both(0, 20, 4, 32).b, api.ErrOverlap)
}

// P9.1: what is asked first is answered, whatever else is wrong.
func TestFirst(t *testing.T) {
	wrong := []struct {
		e api.Errno
		f func(*laid)
	}{
		{api.ErrEnd, func(l *laid) { l.put(l.end, 1, 0) }},
		{api.ErrDisk, func(l *laid) { l.put(l.end+4, 2, 1) }},
		{api.ErrRecord, func(l *laid) { l.put(l.central[0]+34, 2, 1) }},
		{api.ErrFlags, func(l *laid) { l.put(l.central[0]+8, 2, 1) }},
		{api.ErrName, func(l *laid) { l.put(l.central[0]+46, 1, '/') }},
		{api.ErrRecord, func(l *laid) { l.put(l.central[1], 1, 0) }},
		{api.ErrTwice, func(l *laid) { l.put(l.central[1]+46, 1, 'a') }},
		{api.ErrFlags, func(l *laid) { l.put(l.central[2]+10, 2, 9) }},
		{api.ErrName, func(l *laid) { l.put(l.central[2]+46, 1, 0) }},
		{api.ErrRecord, func(l *laid) { l.put(l.central[2]+32, 2, 0) }},
		{api.ErrLocal, func(l *laid) { l.put(l.heads[0]+14, 2, 9) }},
		{api.ErrLocal, func(l *laid) { l.put(l.heads[2], 1, 9) }},
		{api.ErrOverlap, func(l *laid) { l.both(1, 20, 4, 3) }},
	}
	for from := range wrong {
		for skip := range wrong {
			l := lay("", "", part{name: "a"}, part{name: "b"}, part{name: "c", comment: "said"})
			for i, w := range wrong {
				if i == from || i > from && i != skip {
					w.f(l)
				}
			}
			askError(t, l.b, wrong[from].e)
		}
	}
}

// P9.1: within a central record and within the end record too.
func TestFirstWithin(t *testing.T) {
	l := lay("", "", part{name: "a"}, part{name: "a", flags: 1})
	askError(t, l.b, api.ErrFlags)
	l = lay("", "", part{name: "/", flags: 1})
	askError(t, l.b, api.ErrFlags)
	l.put(l.central[0]+34, 2, 1)
	askError(t, l.b, api.ErrRecord)
	askError(t, lay("", "", part{name: "/"}, part{name: "/"}).b, api.ErrName)
	// Bytes left in the directory are asked for behind the last record's questions, and ahead of the local headers.
	l = lay("", "", part{name: "a", flags: 1})
	askError(t, l.insert(l.end, "x").b, api.ErrFlags)
	l = lay("", "", part{name: "a"})
	askError(t, l.insert(l.end, "x").put(0, 1, 0).b, api.ErrRecord)
}

// P9.3: bytes that no record points to may be any.
func TestAnyBytes(t *testing.T) {
	var c chance
	for range 3000 {
		some := func() string { return string(c.some(c.below(9))) }
		l := lay(some(), some(),
			part{name: "a", packed: some(), gap: some(), localExtra: some(), centralExtra: some(), comment: some(), maker: c.below(65536), inside: c.below(65536), outside: c.below(1 << 24)},
			part{name: "b", packed: some(), gap: some(), localExtra: some(), centralExtra: some(), comment: some(), maker: c.below(65536), inside: c.below(65536), outside: c.below(1 << 24)})
		askNames(t, l.b, "a", "b")
	}
	for _, s := range []string{"PK\x03\x04", "PK\x01\x02", "PK\x05\x06", string(three().b)} {
		askNames(t, lay(s, "", part{name: "a", gap: s, packed: s, localExtra: s, centralExtra: s, comment: s}).b, "a")
		askNames(t, lay("", s[:4], part{name: "a"}).b, "a")
	}
}

// P9.3: each byte of a gap, of an extra, of a comment, and of packed bytes.
func TestAnyByte(t *testing.T) {
	l := three()
	free := map[int]bool{}
	add := func(from, to int) {
		for at := from; at < to; at++ {
			free[at] = true
		}
	}
	add(0, 8)
	add(39, 42)
	add(42+39, 89)
	add(89, 96)
	add(128, l.dir)
	for _, at := range l.central {
		add(at+4, at+6)
		add(at+36, at+42)
	}
	add(l.central[1]+55, l.central[2])
	add(l.end+22, len(l.b))
	for at := range l.b {
		l := three()
		l.b[at] ^= 0x55
		if _, e := Directory(l.b); (e == api.OK) != free[at] {
			t.Errorf("the byte at %d is another one: %d", at, e)
		}
	}
}
