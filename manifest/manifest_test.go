package manifest

import (
	"bytes"
	"slices"
	"strconv"
	"strings"
	"testing"

	"samovar/api"
)

// first is a first line that is right.
const first = "Manifest-Version: 1.0\n"

// chance tells numbers that are always the same ones.
type chance uint32

func (c *chance) below(n int) int {
	*c = *c*1664525 + 1013904223
	return int(uint32(*c)>>8) % n
}

// of is one of some texts.
func (c *chance) of(l ...string) string { return l[c.below(len(l))] }

func askRead(t *testing.T, text string, want ...Pair) {
	t.Helper()
	in := append([]byte(text), "spare"...)
	l, e := Read(in[:len(text)])
	if e != api.OK || !slices.Equal(l, want) {
		t.Errorf("Read(%.200q) = %.200q, %d, not %.200q", text, l, e, want)
	}
	if string(in) != text+"spare" {
		t.Errorf("Read(%.200q) has made %.200q of it", text, in)
	}
	was := slices.Clone(l)
	clear(in)
	if !slices.Equal(l, was) {
		t.Errorf("Read(%.200q) keeps what it was handed", text)
	}
}

func askNoRead(t *testing.T, text string, want api.Errno) {
	t.Helper()
	if l, e := Read([]byte(text)); e != want || len(l) != 0 {
		t.Errorf("Read(%.200q) = %.200q, %d, not %d", text, l, e, want)
	}
	if s, e := Main([]byte(text)); e != want || s != "" {
		t.Errorf("Main(%.200q) = %q, %d, not %d", text, s, e, want)
	}
}

func askMain(t *testing.T, text, want string) {
	t.Helper()
	if s, e := Main([]byte(text)); e != api.OK || s != want {
		t.Errorf("Main(%.200q) = %q, %d, not %q", text, s, e, want)
	}
}

func askNoMain(t *testing.T, text string) {
	t.Helper()
	if s, e := Main([]byte(text)); e != api.ErrManifest || s != "" {
		t.Errorf("Main(%.200q) = %q, %d", text, s, e)
	}
}

// askWrite asks that attributes are written so, and read as they were.
func askWrite(t *testing.T, want string, l ...Pair) {
	t.Helper()
	before := slices.Clone(l)
	b, e := Write(l)
	if e != api.OK || string(b) != want {
		t.Errorf("Write(%.200q) = %.200q, %d, not %.200q", l, b, e, want)
	}
	if !slices.Equal(l, before) {
		t.Errorf("Write has made %.200q of %.200q", l, before)
	}
	if back, e := Read(b); e != api.OK || !slices.Equal(back, before) {
		t.Errorf("%.200q is written, %.200q is read, %d", before, back, e)
	}
}

func askNoWrite(t *testing.T, want api.Errno, l ...Pair) {
	t.Helper()
	if b, e := Write(l); e != want || len(b) != 0 {
		t.Errorf("Write(%.200q) = %.200q, %d, not %d", l, b, e, want)
	}
}

// version is an attribute that may be the first one.
func version(value string) Pair { return Pair{"Manifest-Version", value} }

// P12.1: the chapter's examples.
func TestExamples(t *testing.T) {
	askMain(t, "Manifest-Version: 1.0\nMain-Class: a.B\n", "a/B")
	askNoRead(t, "main-class: x\nManifest-Version: 1.0\n", api.ErrManifest)
	askRead(t, "Manifest-Version: 1.0\n x", version("1.0x"))
	askNoRead(t, "", api.ErrManifest)
	askNoRead(t, "Manifest-Version:1", api.ErrManifest)
}

// P12.1, P12.3: lines that end with any end, or with the text.
func TestEnds(t *testing.T) {
	lines := []string{"Manifest-Version: 1", "a: b", "c: ", " d", " ", "  e", "f: g"}
	want := []Pair{version("1"), {"a", "b"}, {"c", "d e"}, {"f", "g"}}
	ends := []string{"\n", "\r", "\r\n"}
	for i := range 3 * 3 * 3 {
		var text strings.Builder
		for n, line := range lines {
			by := []int{i % 3, i / 3 % 3, i / 9}[n%3]
			text.WriteString(line + ends[by])
		}
		whole := text.String()
		askRead(t, whole, want...)
		askRead(t, strings.TrimRight(whole, "\r\n"), want...)
		for _, end := range ends {
			if strings.HasSuffix(whole+end, "f: g\r\n") {
				continue // one end, made of two
			}
			for _, behind := range []string{"", "x", " x", "a: again", "\x00", strings.Repeat("l", 100), "\n\n", "\r", "h: i\n"} {
				askRead(t, whole+end+behind, want...)
			}
		}
	}
}

// P12.1: of 0d 0a both are one end, of 0a 0d each is one.
func TestTwoEnds(t *testing.T) {
	one := version("1")
	askRead(t, "Manifest-Version: 1\r\na: b", one, Pair{"a", "b"})
	for _, two := range []string{"\n\r", "\n\n", "\r\r", "\r\n\n", "\r\n\r", "\r\r\n", "\n\r\n", "\r\n\r\n"} {
		askRead(t, "Manifest-Version: 1"+two+"a: b", one)
		askRead(t, "Manifest-Version: 1"+two, one)
		askNoRead(t, two+"Manifest-Version: 1", api.ErrManifest)
	}
	for _, end := range []string{"\n", "\r", "\r\n"} {
		askNoRead(t, end+"Manifest-Version: 1", api.ErrManifest)
		askNoRead(t, end, api.ErrManifest)
	}
	// Another byte ends no line.
	for _, c := range []string{"\v", "\f", "\x1c", "\x85", "\u0085", "\u2028", "\t"} {
		askRead(t, "Manifest-Version: 1"+c+"a: b", version("1"+c+"a: b"))
	}
}

// P12.1: lines that go on.
func TestGoOn(t *testing.T) {
	askRead(t, "Manifest-Version: 1\n 2\n  3 \n 4: 5\n ", version("12 3 4: 5"))
	askRead(t, "Manifest-Version: \n 1", version("1"))
	askRead(t, "Manifest-Version: \n \n \na: b\n c", version(""), Pair{"a", "bc"})
	for _, s := range []string{" ", " x", " Manifest-Version: 1\n", " \nManifest-Version: 1\n"} {
		askNoRead(t, s, api.ErrManifest)
	}
	// A name doesn't go on, nor does what is behind it up to the blank.
	for _, s := range []string{"a\n : b", "a:\n  b", "a:\n b", "a\n b: c", "\tb", "\t: b", ":", ": ", ": a"} {
		askNoRead(t, first+s, api.ErrManifest)
		askNoRead(t, first+"a: b\n"+s, api.ErrManifest)
	}
	long := strings.Repeat(" "+strings.Repeat("v", 71)+"\n", 440)
	askRead(t, first+long, version("1.0"+strings.Repeat("v", 71*440)))
	short := strings.Repeat(" v\n", 10000)
	askRead(t, first+short, version("1.0"+strings.Repeat("v", 10000)))
}

// P12.1: names, each byte of them at the beginning and behind it.
func TestNames(t *testing.T) {
	const begins = "ABCDEFGHIJKLMNOPQRSTUVWXYZabcdefghijklmnopqrstuvwxyz0123456789"
	for c := range 256 {
		b := string([]byte{byte(c)})
		if c != '\r' && c != '\n' && c != 0 {
			ask := func(name, begins string) {
				t.Helper()
				if strings.Contains(begins, b) {
					askRead(t, first+name+": v\n", version("1.0"), Pair{name, "v"})
					askWrite(t, "Manifest-Version: \r\n"+name+": v\r\n\r\n", version(""), Pair{name, "v"})
				} else {
					askNoWrite(t, api.ErrManifest, version(""), Pair{name, "v"})
					if c != ' ' || name[0] != ' ' {
						askNoRead(t, first+name+": v\n", api.ErrManifest)
					}
				}
			}
			ask(b, begins)
			ask(b+"x", begins)
			ask("x"+b, begins+"-_")
			ask("x"+b+"x", begins+"-_")
			continue
		}
		askNoWrite(t, api.ErrManifest, version(""), Pair{b, "v"})
		askNoWrite(t, api.ErrManifest, version(""), Pair{"x" + b, "v"})
	}
	most := strings.Repeat("n", 70)
	askRead(t, first+most+": \n v", version("1.0"), Pair{most, "v"})
	askWrite(t, "Manifest-Version: 1\r\n"+most+": \r\n v\r\n\r\n", version("1"), Pair{most, "v"})
	askWrite(t, "Manifest-Version: 1\r\n"+most+": \r\n\r\n", version("1"), Pair{most, ""})
	askNoRead(t, first+most+"n: ", api.ErrLong)
	askNoRead(t, first+most+"n:", api.ErrManifest)
	askNoWrite(t, api.ErrManifest, version("1"), Pair{most + "n", ""})
	askNoWrite(t, api.ErrManifest, version("1"), Pair{"", "v"})
	// What only looks like a letter is none.
	for _, odd := range []string{"Manifest-Ver\u017fion", "MAN\u0130FEST-VERSION", "\u212a", "\u00e4", "\uff21"} {
		askNoRead(t, odd+": 1", api.ErrManifest)
		askNoRead(t, first+odd+": 1", api.ErrManifest)
		askNoWrite(t, api.ErrManifest, Pair{odd, "1"})
		askNoWrite(t, api.ErrManifest, version("1"), Pair{odd, "1"})
	}
}

// P12.1: what stands between name and value, and what a value may be.
func TestValues(t *testing.T) {
	for _, v := range []string{"", " ", "  v", "v ", ":", ": ", "a: b", "\t", "\xff\x80", "\u00fc", "\x01", "\x7f"} {
		askRead(t, first+"n: "+v+"\nm: w", version("1.0"), Pair{"n", v}, Pair{"m", "w"})
		askWrite(t, "Manifest-Version: "+v+"\r\nn: "+v+"\r\n\r\n", version(v), Pair{"n", v})
	}
	for _, s := range []string{"n", "n:", "n:v", "n v", "n :v", "n : v", "n  v", "n:\tv", "n= v", "n; v", "x y: v", "n:v: w"} {
		askNoRead(t, first+s, api.ErrManifest)
	}
	for _, v := range []string{"\x00", "\n", "\r", "v\x00", "\nv", "v\r\n", " \r", "\u0100\x00", "long enough for another look\n"} {
		askNoWrite(t, api.ErrManifest, version(v))
		askNoWrite(t, api.ErrManifest, version("1"), Pair{"n", v})
	}
}

// P12.1: lines of so many bytes and no more, without a byte 0.
func TestLines(t *testing.T) {
	fits := "n: " + strings.Repeat("v", 69)
	for _, end := range []string{"", "\n", "\r", "\r\n"} {
		askRead(t, first+fits+end, version("1.0"), Pair{"n", fits[3:]})
		askRead(t, first+"n: \n "+fits[1:]+end, version("1.0"), Pair{"n", fits[1:]})
		askNoRead(t, first+fits+"v"+end, api.ErrLong)
		askNoRead(t, first+"n: \n "+fits+end, api.ErrLong)
		askNoRead(t, strings.Repeat("x", 73)+end, api.ErrLong)
		askNoRead(t, " "+strings.Repeat("x", 72)+end, api.ErrLong)
		askNoRead(t, strings.Repeat("x", 72)+end, api.ErrManifest)
		askNoRead(t, first+strings.Repeat(" ", 73)+end, api.ErrLong)
		for _, s := range []string{"\x00", " \x00", "n\x00: ", "n: \x00", "n: v\x00", "x\x00", "Manifest-Version: \x00"} {
			askNoRead(t, s+end, api.ErrLong)
			askNoRead(t, first+s+end, api.ErrLong)
		}
	}
}

// P12.1: names that are one.
func TestTwice(t *testing.T) {
	for _, two := range [][2]string{{"n", "n"}, {"n", "N"}, {"ab-C_9", "AB-c_9"}, {"Main-Class", "MAIN-CLASS"}} {
		askNoRead(t, first+two[0]+": v\nother: \n"+two[1]+": v", api.ErrTwice)
		askNoRead(t, first+two[0]+": v\n"+two[1]+": ", api.ErrTwice)
		askNoWrite(t, api.ErrTwice, version(""), Pair{two[0], "v"}, Pair{"other", ""}, Pair{two[1], "w"})
		// What is behind the main section isn't looked at.
		askRead(t, first+two[0]+": v\n\n"+two[1]+": v", version("1.0"), Pair{two[0], "v"})
	}
	askNoRead(t, first+"manifest-version: 1.0", api.ErrTwice)
	askNoRead(t, "n: \nN: ", api.ErrTwice)
	askNoWrite(t, api.ErrTwice, version("1"), Pair{"manifest-version", "1"})
	askRead(t, first+"n: v\nnn: v\nn-: v\nn_: v", version("1.0"), Pair{"n", "v"}, Pair{"nn", "v"}, Pair{"n-", "v"}, Pair{"n_", "v"})
	// These are no letters, though the bit that parts small from great ones parts them from others.
	askRead(t, first+"x-: v\nx_: v\nx0: v\nxP: v\n", version("1.0"), Pair{"x-", "v"}, Pair{"x_", "v"}, Pair{"x0", "v"}, Pair{"xP", "v"})
}

// P12.1: the first attribute is the version, in small or great letters, with any value.
func TestFirst(t *testing.T) {
	for _, name := range []string{"Manifest-Version", "manifest-version", "MANIFEST-VERSION", "mANIFEST-vERSION"} {
		askRead(t, name+": \n", Pair{name, ""})
		askMain(t, name+": any\nMain-Class: a", "a")
		askWrite(t, name+": x\r\n\r\n", Pair{name, "x"})
		askNoRead(t, "a: b\n"+name+": 1\n", api.ErrManifest)
		askNoWrite(t, api.ErrManifest, Pair{"a", "b"}, Pair{name, "1"})
	}
	for _, name := range []string{"Manifest", "Manifest-Version-", "Manifest_Version", "ManifestVersion", "Signature-Version", "a"} {
		askNoRead(t, name+": 1", api.ErrManifest)
		askNoWrite(t, api.ErrManifest, Pair{name, "1"})
	}
	askNoWrite(t, api.ErrManifest)
	askNoWrite(t, api.ErrManifest, []Pair{}...)
	askNoWrite(t, api.ErrManifest, Pair{})
}

// P12.1: texts of so many bytes and no more, whatever they are.
func TestLong(t *testing.T) {
	behind := first + "\n" + strings.Repeat("x", api.MaxEntry)
	askRead(t, behind[:api.MaxEntry], version("1.0"))
	askNoRead(t, behind[:api.MaxEntry+1], api.ErrLong)
	askNoRead(t, strings.Repeat("\n", api.MaxEntry+1), api.ErrLong)
	askNoRead(t, strings.Repeat("\n", api.MaxEntry), api.ErrManifest)
	// As many attributes as there is room for.
	var text strings.Builder
	text.WriteString(first)
	want := []Pair{version("1.0")}
	for i := range 3000 {
		name := strconv.Itoa(i)
		text.WriteString(name + ": \n")
		want = append(want, Pair{name, ""})
	}
	askRead(t, text.String(), want...)
	askNoRead(t, text.String()+"2999: ", api.ErrTwice)
}

// P12.1: of several lines' faults the first one's is told, and of one line's that it is too long, what it is, that its name stands twice; what is asked of all at last.
func TestOrder(t *testing.T) {
	over := strings.Repeat("x", 73)
	askNoRead(t, "a: b\nbad\n"+over, api.ErrManifest)
	askNoRead(t, "a: b\n"+over+"\nbad", api.ErrLong)
	askNoRead(t, "a: b\na: c\n"+over, api.ErrTwice)
	askNoRead(t, "a: b\na: c\nbad", api.ErrTwice)
	askNoRead(t, "a: b\nbad\na: c", api.ErrManifest)
	askNoRead(t, "a: b\na: "+over, api.ErrLong)
	askNoRead(t, "a: b\na: \x00", api.ErrLong)
	askNoRead(t, "a: b\n"+over, api.ErrLong)
	askNoRead(t, " x\n"+over, api.ErrManifest)
}

// P12.1: main classes.
func TestMain(t *testing.T) {
	most := strings.Repeat("c", 58)
	for value, want := range map[string]string{
		"a": "a", "a.B": "a/B", "a.b.C": "a/b/C", "A$b": "A$b", "-": "-", "a-b": "a-b", "1": "1", "\xff\x80": "\xff\x80", "\u00fc.\u00fc": "\u00fc/\u00fc",
		"!": "!", "~": "~", "a:b": "a:b", "a@b,c": "a@b,c", "{}|^]": "{}|^]", "'=*+": "'=*+",
		most: most, most[:29] + "." + most[:28]: most[:29] + "/" + most[:28],
	} {
		askMain(t, first+"Main-Class: "+value, want)
		askMain(t, first+"MAIN-class: "+value+"\r\nother: x/y", want)
		askMain(t, first+"other: \nmain-class: \n "+value[:1]+"\n "+value[1:]+"\n\nMain-Class: z", want)
	}
	for _, value := range []string{
		"", ".", "..", "a.", ".a", "a..b", "a/b", "/", "a/", "/a", " a", "a ", "a b", "a\t", "\x01", "\x1f", "a;", "[a", "[", "a\\b", "a(", ")a", "<a", "a>", "a\x7f",
		most + "c", most[:29] + "." + most[:29], "a./b", "a/.b",
	} {
		askNoMain(t, first+"Main-Class: "+value)
		askNoMain(t, first+"Main-Class: "+value+"\nMain-Classes: a\n")
	}
	for _, text := range []string{first, first + "Main-Classes: a", first + "MainClass: a", first + "Main_Class: a", first + "a: Main-Class", first + "\nMain-Class: a"} {
		askNoMain(t, text)
	}
	askNoRead(t, first+"Main-Class: a\nMain-Class: a", api.ErrTwice)
	askNoRead(t, first+"Main-Class: a\nbad", api.ErrManifest)
	askNoRead(t, first+"Main-Class: a\n\x00", api.ErrLong)
	askNoRead(t, "Main-Class: a", api.ErrManifest)
}

// P12.1: each byte in a class's name.
func TestMainBytes(t *testing.T) {
	for c := 1; c < 256; c++ {
		if c == '\r' || c == '\n' {
			continue
		}
		for _, around := range [][2]string{{"", ""}, {"a", ""}, {"", "b"}, {"a", "b"}, {"a.", ".b"}} {
			value := around[0] + string([]byte{byte(c)}) + around[1]
			text := first + "Main-Class: " + value
			s, e := Main([]byte(text))
			want, wantError := modelMain(text)
			if s != want || e != wantError {
				t.Errorf("Main of %q = %q, %d, not %q, %d", value, s, e, want, wantError)
			}
		}
	}
}

// P12.1, P12.2: lines are cut behind 72 bytes.
func TestCut(t *testing.T) {
	for n := range 300 {
		v := strings.Repeat("0123456 ", 40)[:n]
		want, _ := modelWrite([]Pair{version(v), {"n", v}, {"m", ""}})
		askWrite(t, want, version(v), Pair{"n", v}, Pair{"m", ""})
	}
	v := func(n int) string { return strings.Repeat("v", n) }
	askWrite(t, "Manifest-Version: "+v(54)+"\r\n\r\n", version(v(54)))
	askWrite(t, "Manifest-Version: "+v(54)+"\r\n v\r\n\r\n", version(v(55)))
	askWrite(t, "Manifest-Version: "+v(54)+"\r\n "+v(71)+"\r\n\r\n", version(v(54+71)))
	askWrite(t, "Manifest-Version: "+v(54)+"\r\n "+v(71)+"\r\n v\r\nn: v\r\n\r\n", version(v(54+72)), Pair{"n", "v"})
	askWrite(t, "Manifest-Version: \r\n\r\n", version(""))
}

// P12.1: what is written has so many bytes and no more.
func TestWriteLong(t *testing.T) {
	met := 0
	for n := 31000; n < 33000; n += 1 {
		l := []Pair{version(strings.Repeat("v", n)), {"n", ""}}
		want, e := modelWrite(l)
		if len(want) == api.MaxEntry {
			met++
		}
		if b, e2 := Write(l); e2 != e || string(b) != want {
			t.Fatalf("Write of %d bytes = %d bytes, %d, not %d, %d", n, len(b), e2, len(want), e)
		}
	}
	// Name by name, so that each size is met.
	for n := range 200 {
		l := []Pair{version(strings.Repeat("v", 31500)), {"n", strings.Repeat("v", 200+n)}, {"m", ""}}
		want, e := modelWrite(l)
		if len(want) == api.MaxEntry {
			met++
			askWrite(t, want, l...)
		}
		if b, e2 := Write(l); e2 != e || string(b) != want {
			t.Fatalf("Write of %d bytes more = %d bytes, %d, not %d, %d", n, len(b), e2, len(want), e)
		}
	}
	if met == 0 {
		t.Error("nothing had as many bytes as may be")
	}
	askNoWrite(t, api.ErrLong, version(strings.Repeat("v", 100<<20)))
	askNoWrite(t, api.ErrLong, version("1"), Pair{"n", strings.Repeat("v", api.MaxEntry)})
	var l []Pair
	for i := range 20000 {
		l = append(l, Pair{"n" + strconv.Itoa(i), ""})
	}
	askNoWrite(t, api.ErrLong, append([]Pair{version("")}, l...)...)
}

// P12.1: of several pairs' faults the first one's is told, and of one pair's its name, its value, that it stands twice; how long all is at last.
func TestWriteOrder(t *testing.T) {
	long := strings.Repeat("v", api.MaxEntry)
	askNoWrite(t, api.ErrTwice, version("1"), Pair{"n", ""}, Pair{"N", ""}, Pair{"bad name", ""})
	askNoWrite(t, api.ErrManifest, version("1"), Pair{"n", ""}, Pair{"bad name", ""}, Pair{"N", ""})
	askNoWrite(t, api.ErrManifest, version("1"), Pair{"n", ""}, Pair{"n", "\n"})
	askNoWrite(t, api.ErrTwice, version("1"), Pair{"n", ""}, Pair{"n", ""}, Pair{"m", "\n"})
	askNoWrite(t, api.ErrTwice, version(long), Pair{"n", long}, Pair{"n", ""})
	askNoWrite(t, api.ErrManifest, version(long), Pair{"n", long}, Pair{"m", "\x00"})
	askNoWrite(t, api.ErrManifest, version(long), Pair{"bad name", ""})
	askNoWrite(t, api.ErrManifest, Pair{"a", ""}, Pair{"a", ""})
}

// P12.2, P12.3: what is written is read as it was, with other ends of lines too, and whatever is behind it.
func TestThereAndBack(t *testing.T) {
	c := chance(12)
	for range 3000 {
		l := []Pair{version(someValue(&c))}
		for i := range c.below(8) {
			name := c.of("a", "B", "Main-Class", "0", "x_") + strings.Repeat("n", c.below(20)) + strconv.Itoa(i)
			l = append(l, Pair{name, someValue(&c)})
		}
		want, e := modelWrite(l)
		if e != api.OK {
			t.Fatalf("the model has no text of %q: %d", l, e)
		}
		askWrite(t, want, l...)
		for _, end := range []string{"\n", "\r"} {
			askRead(t, strings.ReplaceAll(want, "\r\n", end)+c.of("", "x", "Name: y\r\n", "\x00"), l...)
		}
	}
}

// someValue is a value of any bytes that may stand in one.
func someValue(c *chance) string {
	b := make([]byte, c.below(3)*c.below(150))
	for i := range b {
		b[i] = byte(c.below(256))
		if b[i] == 0 || b[i] == '\r' || b[i] == '\n' {
			b[i] = ' '
		}
	}
	return string(b)
}

// P12.1, P2: whatever the bytes are, the answers are the model's.
func TestAnyBytes(t *testing.T) {
	c := chance(1)
	met := map[api.Errno]int{}
	for range 60000 {
		var text strings.Builder
		if c.below(8) > 0 {
			text.WriteString(c.of("Manifest-Version: 1.0", "manifest-VERSION: ", "Manifest-Version:"))
		}
		for range c.below(12) {
			switch c.below(3) {
			case 0:
				text.WriteString(c.of("\n", "\r", "\r\n", "\n", "\r\n", "\n\n"))
			case 1:
				text.WriteString(c.of("\nMain-Class: ", "\r\nmain-class: ", "\nn: v", "\r\nN: w", "\ra: b", "\n ", "\r\n x", "\n  "))
			default:
				text.WriteString(c.of("a", "a.B", "B", ".", "/", " ", ": ", ":", "-", "\x00", "\xff", strings.Repeat("l", 40), strings.Repeat("m", 70), "<init>"))
			}
		}
		s := text.String()
		want, wantError := modelRead(s)
		met[wantError]++
		if l, e := Read([]byte(s)); e != wantError || !slices.Equal(l, want) {
			t.Fatalf("Read(%q) = %q, %d, not %q, %d", s, l, e, want, wantError)
		}
		class, wantError := modelMain(s)
		if m, e := Main([]byte(s)); e != wantError || m != class {
			t.Fatalf("Main(%q) = %q, %d, not %q, %d", s, m, e, class, wantError)
		}
		if class != "" {
			met[-1]++
		}
	}
	for _, e := range []api.Errno{api.OK, api.ErrLong, api.ErrManifest, api.ErrTwice, -1} {
		if met[e] < 500 {
			t.Errorf("%d was met %d times", e, met[e])
		}
	}
}

// P12.1: whatever is to be written, the answers are the model's.
func TestAnyPairs(t *testing.T) {
	c := chance(2)
	met := map[api.Errno]int{}
	for range 40000 {
		var l []Pair
		if c.below(8) > 0 {
			l = append(l, version("1"))
		}
		for range c.below(6) {
			name := c.of("a", "A", "b", "c", "d-_", "Main-Class", "e", "f", "g", strings.Repeat("n", 70), "manifest-version")
			if c.below(8) == 0 {
				name += c.of("", " ", ":", "\x00", "\n", "n", "\xff", "-")
			}
			value := c.of("", "v", " ", strings.Repeat("w", 71), strings.Repeat("x", 200), "a: b")
			if c.below(12) == 0 {
				value += c.of("\x00", "\r", "\n", " ")
			}
			l = append(l, Pair{name, value})
		}
		want, wantError := modelWrite(l)
		met[wantError]++
		if b, e := Write(l); e != wantError || string(b) != want {
			t.Fatalf("Write(%q) = %q, %d, not %q, %d", l, b, e, want, wantError)
		}
	}
	for _, e := range []api.Errno{api.OK, api.ErrManifest, api.ErrTwice} {
		if met[e] < 500 {
			t.Errorf("%d was met %d times", e, met[e])
		}
	}
}

// P12.1: what is answered is new memory.
func TestApart(t *testing.T) {
	l := []Pair{version("1"), {"a", "b"}, {"out of", "reach"}}
	b, e := Write(l[:2])
	if e != api.OK {
		t.Fatal(e)
	}
	was := bytes.Clone(b)
	one, _ := Read(b)
	two, _ := Read(b)
	one[0] = Pair{}
	if two[0] != version("1") || l[0] != version("1") || l[2] != (Pair{"out of", "reach"}) {
		t.Errorf("%q, %q", two, l)
	}
	_ = append(one[:1], Pair{"x", "y"})
	if !slices.Equal(two, l[:2]) {
		t.Errorf("%q", two)
	}
	clear(b[:cap(b)])
	if again, _ := Write(l[:2]); !bytes.Equal(again, was) || !slices.Equal(two, l[:2]) {
		t.Errorf("%q, %q", again, two)
	}
}
