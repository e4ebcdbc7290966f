package image

import (
	"bytes"
	"math"
	"slices"
	"strings"
	"testing"

	"samovar/api"
)

// chance tells numbers that are always the same ones.
type chance uint32

func (c *chance) below(n int) int {
	*c = *c*1664525 + 1013904223
	return int(uint32(*c)>>8) % n
}

// The places of the sample's constants.
const (
	atText      = 1
	atClass     = 2
	atAbove     = 4
	atOther     = 6
	atName      = 7
	atDesc      = 8
	atPair      = 9
	atField     = 10
	atMethod    = 11
	atInterface = 12
	atInt       = 13
	atLong      = 14
	atString    = 16
	atEmpty     = 17
	atLast      = 18
	places      = 20
)

// sample is an image that has everything.
func sample() api.Image {
	return api.Image{
		Minor: 3, Major: 52, Access: 0x8421, This: atClass, Super: atAbove,
		Pool: []api.Const{
			{},
			{Tag: api.TagText, Text: "a/A"}, {Tag: api.TagClass, A: 1},
			{Tag: api.TagText, Text: "java/lang/Object"}, {Tag: api.TagClass, A: 3},
			{Tag: api.TagText, Text: "\xc0\x80\xc3\xbc\xed\xa0\xbd"}, {Tag: api.TagClass, A: 5},
			{Tag: api.TagText, Text: "f"}, {Tag: api.TagText, Text: "()V"}, {Tag: api.TagPair, A: 7, B: 8},
			{Tag: api.TagField, A: 2, B: 9}, {Tag: api.TagMethod, A: 4, B: 9}, {Tag: api.TagInterface, A: 6, B: 9},
			{Tag: api.TagInt, Num: -2}, {Tag: api.TagLong, Num: math.MinInt64 + 5}, {},
			{Tag: api.TagString, A: 17}, {Tag: api.TagText}, {Tag: api.TagLong, Num: 1}, {},
		},
		Ifaces: []int{6, 2},
		Fields: []api.Member{
			{Access: 1, Name: 7, Desc: 8, Attrs: []api.Attr{{Name: 1, Data: []byte{1, 2, 3}}, {Name: 8}}},
			{Access: 65535, Name: 7, Desc: 17},
		},
		Methods: []api.Member{{Access: 0, Name: 3, Desc: 5, Attrs: []api.Attr{{Name: 7, Data: []byte{255}}}}},
		Attrs:   []api.Attr{{Name: 17}, {Name: 17, Data: bytes.Repeat([]byte{0xca}, 300)}},
	}
}

// small is the chapter's image.
func small() api.Image {
	return api.Image{Major: 52, Pool: []api.Const{{}, {Tag: api.TagText, Text: "A"}, {Tag: api.TagClass, A: 1}}, This: 2}
}

func sameAttrs(a, b []api.Attr) bool {
	return slices.EqualFunc(a, b, func(x, y api.Attr) bool { return x.Name == y.Name && bytes.Equal(x.Data, y.Data) })
}

func sameMembers(a, b []api.Member) bool {
	return slices.EqualFunc(a, b, func(x, y api.Member) bool {
		return x.Access == y.Access && x.Name == y.Name && x.Desc == y.Desc && sameAttrs(x.Attrs, y.Attrs)
	})
}

// same asks whether two images say the same.
func same(a, b api.Image) bool {
	return a.Minor == b.Minor && a.Major == b.Major && slices.Equal(a.Pool, b.Pool) &&
		a.Access == b.Access && a.This == b.This && a.Super == b.Super && slices.Equal(a.Ifaces, b.Ifaces) &&
		sameMembers(a.Fields, b.Fields) && sameMembers(a.Methods, b.Methods) && sameAttrs(a.Attrs, b.Attrs)
}

func copiedAttrs(l []api.Attr) []api.Attr {
	l = slices.Clone(l)
	for i := range l {
		l[i].Data = bytes.Clone(l[i].Data)
	}
	return l
}

func copiedMembers(l []api.Member) []api.Member {
	l = slices.Clone(l)
	for i := range l {
		l[i].Attrs = copiedAttrs(l[i].Attrs)
	}
	return l
}

// copied is the same image in other memory.
func copied(m api.Image) api.Image {
	m.Pool, m.Ifaces = slices.Clone(m.Pool), slices.Clone(m.Ifaces)
	m.Fields, m.Methods, m.Attrs = copiedMembers(m.Fields), copiedMembers(m.Methods), copiedAttrs(m.Attrs)
	return m
}

// isNone asks whether an image is the zero one.
func isNone(m api.Image) bool { return same(m, api.Image{}) }

// askWritten asks that an image holds, is written as the model lays it, and is parsed as it was.
func askWritten(t *testing.T, m api.Image) []byte {
	t.Helper()
	was := copied(m)
	if !Holds(m) {
		t.Fatalf("Holds(%.300v) = false", m)
	}
	b, e := Write(m)
	if e != api.OK || !bytes.Equal(b, modelBytes(m)) {
		t.Fatalf("Write(%.300v) = % .60x, %d, not % .60x", m, b, e, modelBytes(m))
	}
	if !same(m, was) {
		t.Fatalf("Write has made %.300v of %.300v", m, was)
	}
	askParsed(t, b, m)
	return b
}

// askParsed asks that bytes are parsed as an image, which shares no memory with them.
func askParsed(t *testing.T, b []byte, want api.Image) {
	t.Helper()
	in := append(bytes.Clone(b), 0xca, 0xfe)
	m, e := Parse(in[:len(b)])
	if e != api.OK || !same(m, want) {
		t.Fatalf("Parse(% .60x) = %.300v, %d, not %.300v", b, m, e, want)
	}
	if !bytes.Equal(in[:len(b)], b) || in[len(b)] != 0xca {
		t.Fatalf("Parse has changed % .60x", b)
	}
	clear(in)
	if !same(m, want) {
		t.Fatalf("Parse(% .60x) keeps what it was handed", b)
	}
}

// askNoHold asks that an image doesn't hold, nor its bytes, if it has some.
func askNoHold(t *testing.T, m api.Image, why string) {
	t.Helper()
	if Holds(m) {
		t.Errorf("%s: it holds", why)
	}
	if b, e := Write(m); e != api.ErrForm || len(b) != 0 {
		t.Errorf("%s: Write = % .60x, %d", why, b, e)
	}
}

func askNoParse(t *testing.T, b []byte, want api.Errno, why string) {
	t.Helper()
	if m, e := Parse(b); e != want || !isNone(m) {
		t.Errorf("%s: Parse(% .60x) = %.300v, %d, not %d", why, b, m, e, want)
	}
}

// P14.1: the chapter's examples.
func TestExamples(t *testing.T) {
	askNoParse(t, nil, api.ErrShort, "no bytes")
	askNoParse(t, []byte{0xca, 0xfe, 0xba, 0xbf}, api.ErrForm, "another beginning")
	b := askWritten(t, small())
	if want := "\xca\xfe\xba\xbe\x00\x00\x00\x34\x00\x03" + "\x01\x00\x01A" + "\x07\x00\x01" + strings.Repeat("\x00", 3) + "\x02" + strings.Repeat("\x00", 10); string(b) != want {
		t.Errorf("% x, not % x", b, want)
	}
}

// P14.1, P14.2: an image that has everything, there and back.
func TestSample(t *testing.T) {
	b := askWritten(t, sample())
	if m := sample(); len(m.Pool) != places || !modelHolds(m) {
		t.Error("the sample isn't one")
	}
	for n := range len(b) {
		askNoParse(t, b[:n], api.ErrShort, "cut off")
	}
	for _, more := range []string{"\x00", "\xca\xfe\xba\xbe", string(b)} {
		askNoParse(t, append(bytes.Clone(b), more...), api.ErrForm, "something is behind")
	}
}

// P14.1: what begins otherwise is ErrForm once there are four bytes, ErrShort ahead of that.
func TestBeginning(t *testing.T) {
	whole := modelBytes(sample())
	for at := range 4 {
		for bit := range 8 {
			b := bytes.Clone(whole)
			b[at] ^= 1 << bit
			askNoParse(t, b, api.ErrForm, "another beginning")
			askNoParse(t, b[:4], api.ErrForm, "another beginning alone")
			askNoParse(t, b[:3], api.ErrShort, "a beginning that is cut off")
		}
	}
}

// P14.1: the versions.
func TestVersions(t *testing.T) {
	m := sample()
	for _, major := range []int{-1, 0, 1, 44, 45, 46, 50, 51, 52, 53, 61, 45 + 256, 52 + 65536, 65535, 65536, math.MaxInt, math.MinInt} {
		m.Major = major
		if major >= 45 && major <= 52 {
			askWritten(t, m)
			continue
		}
		askNoHold(t, m, "a major version")
		if major == int(uint16(major)) {
			b := modelBytes(m)
			askNoParse(t, b, api.ErrForm, "a major version")
			askNoParse(t, b[:8], api.ErrForm, "a major version with nothing behind")
			askNoParse(t, b[:7], api.ErrShort, "half a major version")
		}
	}
	m.Major = 45
	for _, n := range []int{0, 1, 255, 256, 65535, 65536, -1, math.MaxInt, math.MinInt} {
		m.Minor = n
		if n >= 0 && n <= 65535 {
			askWritten(t, m)
		} else {
			askNoHold(t, m, "a minor version")
		}
	}
}

// P14.1: the chapter's rules of what holds, one by one.
func TestNoHold(t *testing.T) {
	for why, change := range map[string]func(m *api.Image){
		"access below 0":              func(m *api.Image) { m.Access = -1 },
		"access above two bytes":      func(m *api.Image) { m.Access = 65536 },
		"no pool":                     func(m *api.Image) { m.Pool = nil },
		"an empty pool":               func(m *api.Image) { m.Pool = []api.Const{} },
		"this is 0":                   func(m *api.Image) { m.This = 0 },
		"this below 0":                func(m *api.Image) { m.This = -1 },
		"this beyond":                 func(m *api.Image) { m.This = places },
		"this far beyond":             func(m *api.Image) { m.This = math.MaxInt },
		"this a text":                 func(m *api.Image) { m.This = atText },
		"this a string":               func(m *api.Image) { m.This = atString },
		"this unused":                 func(m *api.Image) { m.This = atLong + 1 },
		"super below 0":               func(m *api.Image) { m.Super = -1 },
		"super least":                 func(m *api.Image) { m.Super = math.MinInt },
		"super beyond":                func(m *api.Image) { m.Super = places },
		"super a text":                func(m *api.Image) { m.Super = atText },
		"super unused":                func(m *api.Image) { m.Super = atLong + 1 },
		"an interface 0":              func(m *api.Image) { m.Ifaces[1] = 0 },
		"an interface beyond":         func(m *api.Image) { m.Ifaces[0] = places },
		"an interface below 0":        func(m *api.Image) { m.Ifaces[0] = -atClass },
		"an interface a pair":         func(m *api.Image) { m.Ifaces[0] = atPair },
		"a field's access":            func(m *api.Image) { m.Fields[1].Access = 65536 },
		"a field's access below 0":    func(m *api.Image) { m.Fields[0].Access = -1 },
		"a field's name 0":            func(m *api.Image) { m.Fields[1].Name = 0 },
		"a field's name a class":      func(m *api.Image) { m.Fields[1].Name = atClass },
		"a field's name beyond":       func(m *api.Image) { m.Fields[1].Name = places },
		"a field's descriptor a pair": func(m *api.Image) { m.Fields[0].Desc = atPair },
		"a field's descriptor -1":     func(m *api.Image) { m.Fields[0].Desc = -1 },
		"a field's attribute":         func(m *api.Image) { m.Fields[0].Attrs[1].Name = atString },
		"a field's attribute 0":       func(m *api.Image) { m.Fields[0].Attrs[0].Name = 0 },
		"a field's attribute's bytes": func(m *api.Image) { m.Fields[0].Attrs[0].Data = make([]byte, api.MaxEntry+1) },
		"a method's access":           func(m *api.Image) { m.Methods[0].Access = math.MaxInt },
		"a method's access below 0":   func(m *api.Image) { m.Methods[0].Access = -1 },
		"a method's name an int":      func(m *api.Image) { m.Methods[0].Name = atInt },
		"a method's descriptor":       func(m *api.Image) { m.Methods[0].Desc = atLong + 1 },
		"a method's attribute":        func(m *api.Image) { m.Methods[0].Attrs[0].Name = -1 },
		"a method's attribute's bytes": func(m *api.Image) {
			m.Methods[0].Attrs[0].Data = make([]byte, api.MaxEntry+1)
		},
		"an attribute a class":   func(m *api.Image) { m.Attrs[1].Name = atClass },
		"an attribute beyond":    func(m *api.Image) { m.Attrs[0].Name = places },
		"an attribute's bytes":   func(m *api.Image) { m.Attrs[0].Data = make([]byte, api.MaxEntry+1) },
		"the first place a text": func(m *api.Image) { m.Pool[0] = api.Const{Tag: api.TagText} },
		"the first place's A":    func(m *api.Image) { m.Pool[0].A = 1 },
		"the first place's B":    func(m *api.Image) { m.Pool[0].B = 1 },
		"the first place's num":  func(m *api.Image) { m.Pool[0].Num = 1 },
		"the first place's text": func(m *api.Image) { m.Pool[0].Text = "a" },
		"nothing behind a text":  func(m *api.Image) { m.Pool[atText+1] = api.Const{} },
		"nothing at the end":     func(m *api.Image) { m.Pool = append(m.Pool, api.Const{}) },
		"a long at the end":      func(m *api.Image) { m.Pool = append(m.Pool, api.Const{Tag: api.TagLong}) },
		"two unused places":      func(m *api.Image) { m.Pool[atLast], m.Pool[atString] = api.Const{Tag: 3}, api.Const{} },
		"a text behind a long":   func(m *api.Image) { m.Pool[atLong+1] = api.Const{Tag: api.TagText, Text: "a"} },
		"an int behind a long":   func(m *api.Image) { m.Pool[atLast+1] = api.Const{Tag: api.TagInt} },
		"an unused place's num":  func(m *api.Image) { m.Pool[atLong+1].Num = 1 },
		"an unused place's A":    func(m *api.Image) { m.Pool[atLast+1].A = 1 },
		"an unused place's text": func(m *api.Image) { m.Pool[atLast+1].Text = "a" },
		"another text's bytes":   func(m *api.Image) { m.Pool[atEmpty].Text = "\x00" },
		"a text in UTF-8":        func(m *api.Image) { m.Pool[atEmpty].Text = "\U0001f600" },
		"a text of no form":      func(m *api.Image) { m.Pool[atEmpty].Text = "\xe0\x81\x81" },
		"a text too long":        func(m *api.Image) { m.Pool[atEmpty].Text = strings.Repeat("a", 65536) },
		"an int above 32 bits":   func(m *api.Image) { m.Pool[atInt].Num = math.MaxInt32 + 1 },
		"an int below 32 bits":   func(m *api.Image) { m.Pool[atInt].Num = math.MinInt32 - 1 },
		"an int without a sign":  func(m *api.Image) { m.Pool[atInt].Num = math.MaxUint32 },
		"a greatest int":         func(m *api.Image) { m.Pool[atInt].Num = math.MaxInt64 },
		"a least int":            func(m *api.Image) { m.Pool[atInt].Num = math.MinInt64 },
	} {
		m := sample()
		change(&m)
		askNoHold(t, m, why)
		if modelHolds(m) {
			t.Errorf("%s: the model holds it", why)
		}
	}
}

// P14.1: each constant has just what its tag asks for, and names just what it may.
func TestConstants(t *testing.T) {
	wants := map[int][2]int{
		atText: {}, atEmpty: {}, atInt: {}, atLong: {}, atClass: {api.TagText}, atString: {api.TagText},
		atField: {api.TagClass, api.TagPair}, atMethod: {api.TagClass, api.TagPair}, atInterface: {api.TagClass, api.TagPair}, atPair: {api.TagText, api.TagText},
	}
	for at, want := range wants {
		for place := -2; place < places+3; place++ {
			for i, tag := range want {
				m := sample()
				if i == 0 {
					m.Pool[at].A = place
				} else {
					m.Pool[at].B = place
				}
				holds := tag == 0 && place == 0 || tag != 0 && place > 0 && place < places && m.Pool[place].Tag == tag
				if got := Holds(m); got != holds {
					t.Errorf("the place %d named by that at %d: %v", place, at, got)
				}
				if holds {
					askWritten(t, m)
				} else if tag != 0 && place >= 0 {
					askNoParse(t, modelBytes(m), api.ErrForm, "a place that has something else")
				}
			}
		}
		for _, change := range []func(c *api.Const){
			func(c *api.Const) { c.Num++ }, func(c *api.Const) { c.Text += "a" }, func(c *api.Const) { c.Num-- },
		} {
			m := sample()
			change(&m.Pool[at])
			if holds := modelHolds(m); Holds(m) != holds {
				t.Errorf("%v: not %v", m.Pool[at], holds)
			} else if holds {
				askWritten(t, m)
			}
		}
	}
}

// P14.1: tags that are none.
func TestTags(t *testing.T) {
	known := []int{api.TagText, api.TagInt, api.TagLong, api.TagClass, api.TagString, api.TagField, api.TagMethod, api.TagInterface, api.TagPair}
	head := modelBytes(small())[:8]
	for tag := -3; tag < 260; tag++ {
		if slices.Contains(known, tag) {
			continue
		}
		m := sample()
		m.Pool = append(m.Pool, api.Const{Tag: tag})
		askNoHold(t, m, "a tag")
		if tag >= 0 && tag < 256 {
			askNoParse(t, append(bytes.Clone(head), 0, 2, byte(tag)), api.ErrForm, "a tag with nothing behind")
		}
	}
	for _, tag := range known {
		askNoParse(t, append(bytes.Clone(head), 0, 2, byte(tag)), api.ErrShort, "a tag with nothing behind")
	}
}

// P14.1, P14.2: numbers of constants at their edges.
func TestNumbers(t *testing.T) {
	for _, n := range []int64{0, 1, -1, 127, 128, 255, 256, -128, -129, 65535, 65536, math.MaxInt32, math.MinInt32, 0x12345678, -0x12345678} {
		m := sample()
		m.Pool[atInt].Num = n
		askWritten(t, m)
	}
	for _, n := range []int64{0, 1, -1, math.MaxInt32, math.MaxInt32 + 1, math.MinInt32, math.MinInt32 - 1, math.MaxUint32, math.MaxInt64, math.MinInt64, 0x0123456789abcdef} {
		m := sample()
		m.Pool[atLast].Num = n
		askWritten(t, m)
	}
}

// P14.1: the number of constants and one, at its edges.
func TestPoolSize(t *testing.T) {
	for _, n := range []int{3, 4, 1023, 1024, 1025, 1026, 2000} {
		m := small()
		for len(m.Pool) < n {
			m.Pool = append(m.Pool, api.Const{Tag: api.TagInt, Num: int64(len(m.Pool))})
		}
		if n <= 1024 {
			askWritten(t, m)
			continue
		}
		askNoHold(t, m, "so many places")
		askNoParse(t, modelBytes(m), api.ErrForm, "so many places")
		askNoParse(t, modelBytes(m)[:10], api.ErrForm, "so many places, with nothing behind")
	}
	b := modelBytes(small())
	for _, n := range []int{0, 1025, 0x8000, 65535} {
		b[8], b[9] = byte(n>>8), byte(n)
		askNoParse(t, b, api.ErrForm, "a number of constants")
		askNoParse(t, b[:10], api.ErrForm, "a number of constants, with nothing behind")
		askNoParse(t, b[:9], api.ErrShort, "half a number of constants")
	}
	// One without constants can't name a class.
	none := api.Image{Major: 52, Pool: []api.Const{{}}}
	askNoHold(t, none, "no constants")
	askNoParse(t, modelBytes(none), api.ErrForm, "no constants")
	askNoParse(t, modelBytes(none)[:23], api.ErrShort, "no constants, cut off")
}

// P14.1: a long has two places.
func TestLongs(t *testing.T) {
	m := small()
	m.Pool = append(m.Pool, api.Const{Tag: api.TagLong, Num: 7}, api.Const{})
	b := askWritten(t, m)
	for range (1024 - 5) / 2 {
		m.Pool = append(m.Pool, api.Const{Tag: api.TagLong, Num: -7}, api.Const{})
	}
	askWritten(t, m)
	m.Pool = append(m.Pool, api.Const{Tag: api.TagInt})
	askWritten(t, m)
	m.Pool = append(m.Pool[:1023], api.Const{Tag: api.TagLong})
	askNoHold(t, m, "a long at the last place")
	askNoParse(t, modelBytes(m), api.ErrForm, "a long at the last place")
	m.Pool = append(m.Pool, api.Const{})
	askNoHold(t, m, "a long beyond the last place")
	askNoParse(t, modelBytes(m), api.ErrForm, "a long beyond the last place")
	// The second place is asked for behind the eight bytes.
	b[9]--
	askNoParse(t, b, api.ErrForm, "a long without a second place")
	at := bytes.IndexByte(b, api.TagLong)
	askNoParse(t, b[:at+9], api.ErrForm, "a long without a second place, with nothing behind")
	askNoParse(t, b[:at+8], api.ErrShort, "a long that is cut off")
}

// P14.1: lists of so many and no more.
func TestLists(t *testing.T) {
	one := api.Member{Name: atName, Desc: atDesc}
	for why, put := range map[string]func(m *api.Image, n int){
		"interfaces":          func(m *api.Image, n int) { m.Ifaces = slices.Repeat([]int{atOther}, n) },
		"fields":              func(m *api.Image, n int) { m.Fields = slices.Repeat([]api.Member{one}, n) },
		"methods":             func(m *api.Image, n int) { m.Methods = slices.Repeat([]api.Member{one}, n) },
		"attributes":          func(m *api.Image, n int) { m.Attrs = slices.Repeat([]api.Attr{{Name: 1}}, n) },
		"a field's attrs":     func(m *api.Image, n int) { m.Fields[0].Attrs = slices.Repeat([]api.Attr{{Name: 1}}, n) },
		"a last field's":      func(m *api.Image, n int) { m.Fields[1].Attrs = slices.Repeat([]api.Attr{{Name: 1}}, n) },
		"a method's attrs":    func(m *api.Image, n int) { m.Methods[0].Attrs = slices.Repeat([]api.Attr{{Name: 1}}, n) },
		"all lists, and each": func(m *api.Image, n int) { fill(m, n) },
	} {
		for _, n := range []int{0, 1, 2, 63, 64, 65, 66, 300} {
			m := sample()
			put(&m, n)
			if n <= 64 {
				askWrittenOrLong(t, m)
				continue
			}
			askNoHold(t, m, why)
			if b := modelBytes(m); len(b) <= api.MaxEntry {
				askNoParse(t, b, api.ErrForm, why)
			}
		}
	}
}

// fill makes each list as long as told.
func fill(m *api.Image, n int) {
	l := slices.Repeat([]api.Attr{{Name: atName}}, n)
	m.Ifaces = slices.Repeat([]int{atOther}, n)
	m.Fields = slices.Repeat([]api.Member{{Name: atName, Desc: atDesc, Attrs: l}}, n)
	m.Methods, m.Attrs = m.Fields, l
}

// askWrittenOrLong asks that an image holds, and is written unless it has too many bytes.
func askWrittenOrLong(t *testing.T, m api.Image) {
	t.Helper()
	if len(modelBytes(m)) <= api.MaxEntry {
		askWritten(t, m)
		return
	}
	askLong(t, m)
}

// askLong asks that an image holds, and has too many bytes.
func askLong(t *testing.T, m api.Image) {
	t.Helper()
	if !Holds(m) {
		t.Errorf("it doesn't hold")
	}
	if b, e := Write(m); e != api.ErrLong || len(b) != 0 {
		t.Errorf("Write = %d bytes, %d", len(b), e)
	}
}

// P14.1: a list's number is asked ahead of what the list has.
func TestListsTold(t *testing.T) {
	b := modelBytes(small())
	for at := 23; at < 31; at += 2 {
		for _, n := range []int{65, 256, 0x8000, 65535} {
			x := bytes.Clone(b)
			x[at], x[at+1] = byte(n>>8), byte(n)
			askNoParse(t, x, api.ErrForm, "a list's number")
			askNoParse(t, x[:at+2], api.ErrForm, "a list's number with nothing behind")
			askNoParse(t, x[:at+1], api.ErrShort, "half a list's number")
		}
		x := bytes.Clone(b)
		x[at+1] = 64
		askNoParse(t, x, api.ErrShort, "a list that is cut off")
	}
	// A member's attributes.
	m := small()
	m.Methods = []api.Member{{Name: 1, Desc: 1}}
	b = modelBytes(m)
	b = b[:len(b)-4]
	askNoParse(t, append(bytes.Clone(b), 0, 65), api.ErrForm, "a member's number of attributes")
	askNoParse(t, append(bytes.Clone(b), 0, 64), api.ErrShort, "a member's attributes that are cut off")
}

// P14.1: an attribute has as many bytes as it says.
func TestAttributeBytes(t *testing.T) {
	m := small()
	m.Attrs = []api.Attr{{Name: 1, Data: []byte("abc")}}
	b := askWritten(t, m)
	size := len(b) - 7
	for _, n := range []uint32{4, 255, 256, 65536, 1 << 24, 1<<31 - 1, 1 << 31, 1<<31 + 3, 1<<32 - 1, 3 | 1<<16, 3 | 1<<24} {
		x := bytes.Clone(b)
		for i := range 4 {
			x[size+i] = byte(n >> (24 - 8*i))
		}
		askNoParse(t, x, api.ErrShort, "an attribute that says more than there is")
	}
	for n := range 3 {
		x := bytes.Clone(b)
		x[size+3] = byte(n)
		askNoParse(t, x, api.ErrForm, "an attribute that says less than there is")
	}
}

// P14.1, P14.2: as many bytes as may be, and more.
func TestLong(t *testing.T) {
	m := small()
	spare := api.MaxEntry - len(modelBytes(m)) - 6
	m.Attrs = []api.Attr{{Name: 1, Data: bytes.Repeat([]byte{7}, spare)}}
	b := askWritten(t, m)
	if len(b) != api.MaxEntry {
		t.Fatalf("%d bytes", len(b))
	}
	askNoParse(t, append(b, 0), api.ErrLong, "a byte more")
	askNoParse(t, make([]byte, api.MaxEntry+1), api.ErrLong, "nothing but noughts")
	askNoParse(t, make([]byte, api.MaxEntry), api.ErrForm, "nothing but noughts")
	for _, n := range []int{spare + 1, api.MaxEntry - 1, api.MaxEntry} {
		m.Attrs[0].Data = make([]byte, n)
		askLong(t, m)
		askNoParse(t, modelBytes(m), api.ErrLong, "more bytes than may be")
	}
	// What doesn't fit isn't made good by what is smaller and stands behind it.
	m.Attrs = append(m.Attrs, api.Attr{Name: 1})
	askLong(t, m)
	m.Attrs[0].Name = 2
	askNoHold(t, m, "a long one that doesn't hold")

	m = small()
	m.Pool[1].Text = strings.Repeat("a", 65535)
	askLong(t, m)
	m.Pool[1].Text += "a"
	askNoHold(t, m, "a text of two bytes more")
	m = small()
	text := api.Const{Tag: api.TagText, Text: strings.Repeat("\xc0\x80", api.MaxEntry/2-20)}
	m.Pool = append(m.Pool, text)
	askWritten(t, m)
	m.Pool = append(m.Pool, text)
	askLong(t, m)
}

// P14.1: an image that holds may be very long.
func TestVeryLong(t *testing.T) {
	m := small()
	text := strings.Repeat("a", 65535)
	for len(m.Pool) < api.MaxPool {
		m.Pool = append(m.Pool, api.Const{Tag: api.TagText, Text: text})
	}
	l := slices.Repeat([]api.Attr{{Name: 1, Data: make([]byte, api.MaxEntry)}}, 64)
	m.Fields = slices.Repeat([]api.Member{{Name: 1, Desc: 1, Attrs: l}}, 64)
	m.Methods, m.Attrs = m.Fields, l
	askLong(t, m)
}

// P14.1: of several faults the one that is met first is told.
func TestOrder(t *testing.T) {
	head := string(modelBytes(small())[:8])
	for _, x := range []struct {
		b string
		e api.Errno
	}{
		{head + "\x00\x03" + "\x01\x00\x01\x00" + "\x02", api.ErrUtf},              // a text that is none, a tag that is none
		{head + "\x00\x03" + "\x02" + "\x01\x00\x01\x00", api.ErrForm},             // the other way round
		{head + "\x00\x03" + "\x01\x00\x02\x00", api.ErrShort},                     // a text that is none, cut off
		{head + "\x00\x03" + "\x01\x00\x01\x00", api.ErrUtf},                       // a text that is none, nothing behind
		{head + "\x00\x02" + "\x01\x00\x01\x00" + "junk", api.ErrUtf},              // and something behind
		{head + "\x00\x03" + "\x05\x00\x00\x00\x00\x00\x00\x00\x00", api.ErrShort}, // a long that fits, nothing behind
		{head + "\x00\x02" + "\x05\x00\x00\x00\x00\x00\x00\x00", api.ErrShort},     // a long that doesn't fit, cut off
		{head + "\x00\x02" + "\x05\x00\x00\x00\x00\x00\x00\x00\x00", api.ErrForm},  // a long that doesn't fit
		{head + "\x00\x02" + "\x07\x00\x09", api.ErrShort},                         // a place that isn't there, nothing behind
		{head + "\x00\x02" + "\x07\x00\x09" + strings.Repeat("\x00", 14), api.ErrForm},
		{head + "\x00\x02" + "\x07\x00\x09" + strings.Repeat("\x00", 13), api.ErrShort},
		{head + "\x00\x02" + "\x07\x00\x09" + "\x00\x00\x00\x00\x00\x00\x00\x41", api.ErrForm},
		{"\xca\xfe\xba\xbf" + head[4:], api.ErrForm},
		{"\xca\xfe\xba\xbe\x00\x00\x00\x35\x00", api.ErrForm},
		{"\xca\xfe\xba\xbe\x00\x00\x00", api.ErrShort},
	} {
		askNoParse(t, []byte(x.b), x.e, "the first fault")
		if _, e := modelParse([]byte(x.b)); e != x.e {
			t.Errorf("the model has %d of % x", e, x.b)
		}
	}
}

// P14.1: texts and classes at places.
func TestPlaces(t *testing.T) {
	m := sample()
	texts := map[int]string{1: "a/A", 3: "java/lang/Object", 5: "\xc0\x80\xc3\xbc\xed\xa0\xbd", 7: "f", 8: "()V", 17: ""}
	classes := map[int]string{2: "a/A", 4: "java/lang/Object", 6: "\xc0\x80\xc3\xbc\xed\xa0\xbd"}
	for _, at := range append([]int{-1, -2, math.MinInt, math.MaxInt, 65536 + 1}, count(places+3)...) {
		text, isText := texts[at]
		if s, ok := Text(m, at); s != text || ok != isText {
			t.Errorf("Text at %d = %q, %v", at, s, ok)
		}
		class, isClass := classes[at]
		if s, ok := Class(m, at); s != class || ok != isClass {
			t.Errorf("Class at %d = %q, %v", at, s, ok)
		}
		if s, ok := Text(api.Image{}, at); s != "" || ok {
			t.Errorf("Text of none at %d = %q, %v", at, s, ok)
		}
		if s, ok := Class(api.Image{}, at); s != "" || ok {
			t.Errorf("Class of none at %d = %q, %v", at, s, ok)
		}
	}
	// Of images that don't hold too.
	for a := -3; a < places+3; a++ {
		m.Pool[atOther].A = a
		want, there := texts[a]
		if s, ok := Class(m, atOther); s != want || ok != there {
			t.Errorf("Class of %d = %q, %v", a, s, ok)
		}
	}
	m.Pool[atText].Text = "\x00"
	m.Pool[atOther].A = atText
	if s, ok := Text(m, atText); s != "\x00" || !ok {
		t.Errorf("%q, %v", s, ok)
	}
	if s, ok := Class(m, atOther); s != "\x00" || !ok {
		t.Errorf("%q, %v", s, ok)
	}
}

// P14.1: no constant has the place 0, whatever stands there, and nothing that is named by the place 0 has a text.
func TestPlaceNought(t *testing.T) {
	askNone := func(m api.Image, at int, want string) {
		t.Helper()
		if s, ok := Text(m, 0); s != "" || ok {
			t.Errorf("Text at 0 of %v = %q, %v", m.Pool, s, ok)
		}
		if s, ok := Class(m, 0); s != "" || ok {
			t.Errorf("Class at 0 of %v = %q, %v", m.Pool, s, ok)
		}
		if s, ok := Class(m, at); s != want || ok != (want != "") {
			t.Errorf("Class at %d of %v = %q, %v", at, m.Pool, s, ok)
		}
	}
	for tag := -1; tag < 15; tag++ {
		for a := range places {
			first := api.Const{Tag: tag, A: a, B: a, Text: "nought"}
			askNone(api.Image{Pool: []api.Const{first}}, 1, "")
			m := sample()
			m.Pool[0] = first
			askNone(m, atClass, "a/A")
			if s, ok := Text(m, atText); s != "a/A" || !ok {
				t.Errorf("Text at %d = %q, %v", atText, s, ok)
			}
			m.Pool[atClass].A = 0
			askNone(m, atClass, "")
		}
	}
	// All else that names the place 0 is no less wrong when something stands there.
	for _, first := range []api.Const{{Tag: api.TagText}, {Tag: api.TagText, Text: "A"}, {Tag: api.TagClass, A: 1}, {Tag: api.TagPair, A: 1, B: 1}} {
		m := sample()
		m.Pool[0] = first
		askNoHold(t, m, "something at the place 0")
		m.This, m.Super, m.Ifaces, m.Fields[0].Name = 0, 0, []int{0}, 0
		askNoHold(t, m, "something at the place 0 that is named")
	}
}

// count are the numbers below n.
func count(n int) []int {
	var l []int
	for i := range n {
		l = append(l, i)
	}
	return l
}

// askLikeModel asks that bytes are parsed as the model parses them, and written as they were.
func askLikeModel(t *testing.T, b []byte) api.Errno {
	t.Helper()
	want, wantError := modelParse(b)
	m, e := Parse(b)
	if e != wantError || !same(m, want) {
		t.Fatalf("Parse(% .400x) = %.400v, %d, not %.400v, %d", b, m, e, want, wantError)
	}
	if e != api.OK {
		return e
	}
	if x, e := Write(m); e != api.OK || !bytes.Equal(x, b) {
		t.Fatalf("what was parsed of % .400x is written as % .400x, %d", b, x, e)
	}
	return e
}

// P14.1, P14.2, P2: each byte of a class file as each other one.
func TestEachByte(t *testing.T) {
	m := sample()
	m.Attrs = m.Attrs[:1]
	b := modelBytes(m)
	met := map[api.Errno]int{}
	for at, was := range b {
		for c := range 256 {
			b[at] = byte(c)
			met[askLikeModel(t, b)]++
		}
		b[at] = was
		met[askLikeModel(t, b[:at])]++
		met[askLikeModel(t, slices.Delete(bytes.Clone(b), at, at+1))]++
		met[askLikeModel(t, slices.Insert(bytes.Clone(b), at, 0))]++
	}
	for _, e := range []api.Errno{api.OK, api.ErrShort, api.ErrForm, api.ErrUtf} {
		if met[e] < 100 {
			t.Errorf("%d was met %d times", e, met[e])
		}
	}
}

// someImage is an image by chance, which mostly holds.
func someImage(c *chance) api.Image {
	m := small()
	m.Minor, m.Major, m.Access = c.below(65536), 45+c.below(8), c.below(65536)
	texts, classes, pairs := []int{1}, []int{2}, []int{}
	pick := func(l []int) int { return l[c.below(len(l))] }
	for range c.below(30) {
		at := len(m.Pool)
		x := api.Const{Tag: []int{1, 1, 3, 5, 7, 7, 8, 9, 10, 11, 12, 12}[c.below(12)]}
		switch x.Tag {
		case api.TagText:
			x.Text = []string{"", "a", "Code", "\xc0\x80", "\xed\xa0\x80", "x/Y"}[c.below(6)]
			texts = append(texts, at)
		case api.TagInt:
			x.Num = int64(int32(c.below(1<<24) * 331))
		case api.TagLong:
			x.Num = int64(c.below(1<<24)) * -0x123456789
		case api.TagClass, api.TagString:
			x.A = pick(texts)
		case api.TagPair:
			x.A, x.B = pick(texts), pick(texts)
		default:
			if len(pairs) == 0 {
				continue
			}
			x.A, x.B = pick(classes), pick(pairs)
		}
		m.Pool = append(m.Pool, x)
		switch x.Tag {
		case api.TagLong:
			m.Pool = append(m.Pool, api.Const{})
		case api.TagClass:
			classes = append(classes, at)
		case api.TagPair:
			pairs = append(pairs, at)
		}
	}
	attrs := func() (l []api.Attr) {
		for range c.below(3) {
			l = append(l, api.Attr{Name: pick(texts), Data: bytes.Repeat([]byte{byte(c.below(256))}, c.below(9))})
		}
		return l
	}
	members := func() (l []api.Member) {
		for range c.below(4) {
			l = append(l, api.Member{Access: c.below(65536), Name: pick(texts), Desc: pick(texts), Attrs: attrs()})
		}
		return l
	}
	for range c.below(4) {
		m.Ifaces = append(m.Ifaces, pick(classes))
	}
	m.This, m.Super = pick(classes), pick(append(classes, 0))
	m.Fields, m.Methods, m.Attrs = members(), members(), attrs()
	return m
}

// bend changes one number of an image.
func bend(c *chance, m *api.Image) {
	numbers := []*int{&m.Minor, &m.Major, &m.Access, &m.This, &m.Super}
	for i := range m.Pool {
		numbers = append(numbers, &m.Pool[i].Tag, &m.Pool[i].A, &m.Pool[i].B)
	}
	for i := range m.Ifaces {
		numbers = append(numbers, &m.Ifaces[i])
	}
	for _, l := range [][]api.Member{m.Fields, m.Methods, {{Attrs: m.Attrs}}} {
		for i := range l {
			numbers = append(numbers, &l[i].Access, &l[i].Name, &l[i].Desc)
			for k := range l[i].Attrs {
				numbers = append(numbers, &l[i].Attrs[k].Name)
			}
		}
	}
	*numbers[c.below(len(numbers))] = []int{c.below(14), c.below(len(m.Pool) + 2), c.below(len(m.Pool)), -c.below(3), 65534 + c.below(4)}[c.below(5)]
}

// P14.1, P14.2: images by chance, and such of which a number was changed: the answers are the model's.
func TestAnyImage(t *testing.T) {
	c := chance(14)
	held := map[bool]int{}
	for range 20000 {
		m := someImage(&c)
		askWritten(t, m)
		bend(&c, &m)
		was := copied(m)
		want := modelHolds(m)
		held[want]++
		if Holds(m) != want {
			t.Fatalf("Holds(%v) = %v", m, !want)
		}
		if want {
			askWritten(t, m)
		} else {
			askNoHold(t, m, "a changed image")
		}
		if !same(m, was) {
			t.Fatalf("%v has become %v", was, m)
		}
		askLikeModel(t, modelBytes(m))
	}
	if held[true] < 1000 || held[false] < 1000 {
		t.Error(held)
	}
}

// P14.1, P14.2, P2: bytes by chance behind a right beginning, and files of which some bytes were changed.
func TestAnyBytes(t *testing.T) {
	c := chance(15)
	met := map[api.Errno]int{}
	for range 40000 {
		m := someImage(&c)
		b := modelBytes(m)
		for range 1 + c.below(3) {
			at := 8 + c.below(len(b)-8)
			b[at] = []byte{byte(c.below(256)), byte(c.below(14)), b[c.below(len(b))], 0, b[at] + 1}[c.below(5)]
		}
		met[askLikeModel(t, b)]++
		met[askLikeModel(t, b[:c.below(len(b)+1)])]++
		at, end := c.below(len(b)), c.below(len(b))
		met[askLikeModel(t, slices.Concat(b[:at], b[end:]))]++
	}
	for _, e := range []api.Errno{api.OK, api.ErrShort, api.ErrForm, api.ErrUtf} {
		if met[e] < 500 {
			t.Errorf("%d was met %d times", e, met[e])
		}
	}
}

// P14.1: what is answered is new memory, and each call answers for itself.
func TestApart(t *testing.T) {
	m := sample()
	b, _ := Write(m)
	was := bytes.Clone(b)
	one, _ := Parse(b)
	two, _ := Parse(b)
	clear(one.Pool)
	clear(one.Ifaces)
	clear(one.Attrs[1].Data)
	clear(one.Fields[0].Attrs[0].Data)
	_ = append(one.Fields[0].Attrs[0].Data, 9, 9, 9, 9)
	_ = append(one.Fields[0].Attrs[:1], api.Attr{})
	_ = append(one.Fields[:1], api.Member{})
	clear(one.Methods)
	if !same(two, m) || !bytes.Equal(b, was) {
		t.Errorf("%v, % x", two, b)
	}
	clear(b[:cap(b)])
	if again, _ := Write(m); !bytes.Equal(again, was) || !same(two, m) || !same(m, sample()) {
		t.Errorf("% x", again)
	}
}

// P14.1: what is handed in may have spare room, which is not touched.
func TestSpareRoom(t *testing.T) {
	m := sample()
	m.Pool = append(m.Pool, api.Const{Tag: 99})[:places]
	m.Ifaces = append(m.Ifaces, 99)[:2]
	m.Fields = append(m.Fields, api.Member{Name: 99})[:2]
	m.Attrs = append(m.Attrs, api.Attr{Name: 99})[:2]
	askWritten(t, m)
	if m.Pool[:places+1][places].Tag != 99 || m.Ifaces[:3][2] != 99 || m.Fields[:3][2].Name != 99 || m.Attrs[:3][2].Name != 99 {
		t.Error("spare room was changed")
	}
}
