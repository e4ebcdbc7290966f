package name

import (
	"slices"
	"strings"
	"testing"

	"samovar/api"
)

// chance tells numbers that are always the same ones.
type chance uint32

func (c *chance) below(n int) int {
	*c = *c*1664525 + 1013904223
	return int(uint32(*c)>>8) % n
}

// of is one of some texts.
func (c *chance) of(l ...string) string { return l[c.below(len(l))] }

func askClass(t *testing.T, s string, want bool) {
	t.Helper()
	if Class(s) != want {
		t.Errorf("Class(%.100q) = %v", s, !want)
	}
	// It is one too where a descriptor has it, and nowhere else.
	if Desc("L"+s+";") != want || Desc("[[L"+s+";") != want {
		t.Errorf("Desc of %.100q isn't %v", s, want)
	}
	if _, _, e := Method("(L" + s + ";)V"); (e == api.OK) != want && !strings.Contains(s, ";") {
		t.Errorf("Method of %.100q: %d", s, e)
	}
}

func askMember(t *testing.T, s string, field, method bool) {
	t.Helper()
	if got := Member(s, false); got != field {
		t.Errorf("Member(%.100q, false) = %v", s, got)
	}
	if got := Member(s, true); got != method {
		t.Errorf("Member(%.100q, true) = %v", s, got)
	}
}

func askMethod(t *testing.T, s string, result string, params ...string) {
	t.Helper()
	l, r, e := Method(s)
	if e != api.OK || r != result || !slices.Equal(l, params) {
		t.Errorf("Method(%.100q) = %.100q, %q, %d, not %.100q, %q", s, l, r, e, params, result)
	}
}

func askNoMethod(t *testing.T, s string) {
	t.Helper()
	if l, r, e := Method(s); e != api.ErrForm || r != "" || len(l) != 0 {
		t.Errorf("Method(%.100q) = %.100q, %q, %d", s, l, r, e)
	}
}

func askUnits(t *testing.T, s string, want ...uint16) {
	t.Helper()
	u, e := Units(s)
	if e != api.OK || !slices.Equal(u, want) {
		t.Errorf("Units(% .60x) = %.60x, %d, not %.60x", s, u, e, want)
	}
	in := append(slices.Clone(want), 7, 7)
	if back := Text(in[:len(want)]); back != s {
		t.Errorf("Text(%.60x) = % .60x, not % .60x", want, back, s)
	}
	if !slices.Equal(in, append(slices.Clone(want), 7, 7)) {
		t.Errorf("Text has made %.60x of %.60x", in, want)
	}
}

func askNoUnits(t *testing.T, s string) {
	t.Helper()
	if u, e := Units(s); e != api.ErrUtf || len(u) != 0 {
		t.Errorf("Units(% .60x) = %.60x, %d", s, u, e)
	}
}

// P13.1: names of classes.
func TestClass(t *testing.T) {
	long := strings.Repeat("c", 58)
	for _, s := range []string{
		"a", "A", "$", "_", "0", "-", "!", "~", "\x80", "\xff", "é", "java/lang/Object", "a/b", "a/b/c", "a:b", "a,b", "{}", "a=b", "V", "I", "Lx",
		long, long[:28] + "/" + long[:29], strings.Repeat("a/", 28) + "ab",
	} {
		askClass(t, s, true)
	}
	for _, s := range []string{
		"", "/", "//", "a/", "/a", "a//b", "a/b/", "/a/b", "a.b", ".", "..", "a/.", "a/..", "./a", "../a", "a/../b", "a/./b",
		"a;", "a;b", "[a", "a[", "[I", "a\\b", "(a", "a)", "<a", "a>", "<init>", "<clinit>", " ", "a b", " a", "a ", "\x00", "a\x00", "\x1f", "a\t", "\x7f", "a\x7fb",
		long + "c", long[:29] + "/" + long[:29], strings.Repeat("a/", 29) + "a", strings.Repeat("c", 100000),
	} {
		askClass(t, s, false)
	}
}

// P13.1: names of members.
func TestMember(t *testing.T) {
	long := strings.Repeat("m", 64)
	for _, s := range []string{"a", "main", "$1", "_", "0", "-", "!", "~", "\x80", "\xff", "é", "init", "clinit", "a:b", long} {
		askMember(t, s, true, true)
	}
	for _, s := range []string{
		"", "/", "a/b", "a/", ".", "a.b", ";", "a;", "[", "[a", "\\", "(", ")", "<", ">", "<a>", "<init", "init>", "<Init>", "<init>a", "a<init>", "<clinit", "<clinit> ", "<init><clinit>",
		" ", "a b", "\x00", "\x1f", "\x7f", long + "m", strings.Repeat("m", 100000),
	} {
		askMember(t, s, false, false)
	}
	askMember(t, "<init>", false, true)
	askMember(t, "<clinit>", false, true)
}

// P13.1: descriptors of types.
func TestDesc(t *testing.T) {
	for _, base := range []string{"B", "C", "S", "Z", "I", "J", "La;", "Ljava/lang/String;", "LI;", "LLa;", "LV;"} {
		for n := range 12 {
			s := strings.Repeat("[", n) + base
			if got := Desc(s); got != (n <= 8) {
				t.Errorf("Desc(%q) = %v", s, got)
			}
			for _, more := range []string{base, "I", ";", "[", "V", " ", ")", "/"} {
				if Desc(s + more) {
					t.Errorf("Desc(%q)", s+more)
				}
			}
		}
	}
	for _, s := range []string{
		"", "[", "[[", "[[[[[[[[", "V", "[V", "F", "D", "b", "i", "j", "L", "L;", "La", "La/;", "L/a;", "La.b;", "L[I;", "L[a;", "a", "a;", "a[", "I[", "(I)V", "()V", "LI", "[L", "[L;", "\x00", "\xff",
		strings.Repeat("[", 100000), strings.Repeat("[", 100000) + "I",
	} {
		if Desc(s) {
			t.Errorf("Desc(%.100q)", s)
		}
	}
}

// P13.1, P13.3: descriptors of methods.
func TestMethod(t *testing.T) {
	askMethod(t, "()V", "V")
	askMethod(t, "()I", "I")
	askMethod(t, "()[[La/b;", "[[La/b;")
	askMethod(t, "(I[JLa;)V", "V", "I", "[J", "La;")
	askMethod(t, "(BCSZIJ)J", "J", "B", "C", "S", "Z", "I", "J")
	askMethod(t, "(La;La;La;)La;", "La;", "La;", "La;", "La;")
	askMethod(t, "([I[I[[[[[[[[I)[[[[[[[[I", "[[[[[[[[I", "[I", "[I", "[[[[[[[[I")
	for _, s := range []string{
		"", "(", ")", "()", "V", "()VV", "()V ", " ()V", "(V)I", "(V)V", "([V)V", "()[V", "(I", "(I)", "I)V", "(I)IV", "(I)II", "(I))V", "((I)V", "(I)(", "(II", "(F)V", "()D", "(La)V", "(La;", "(L;)V", "(La;;)V", "()La", "()a;",
		"([)V", "()[", "([[[[[[[[[I)V", "()[[[[[[[[[I", "(I I)V", "(I,I)V", "(La/;)V", "()L" + strings.Repeat("c", 59) + ";", "<init>", "()<init>", "(" + strings.Repeat("[", 100000),
	} {
		askNoMethod(t, s)
	}
}

// P13.1: parameters of so many slots and no more.
func TestMethodSlots(t *testing.T) {
	for _, one := range []string{"I", "B", "La;", "[J", "[[La;"} {
		askMethod(t, "("+strings.Repeat(one, 63)+")J", "J", slices.Repeat([]string{one}, 63)...)
		askNoMethod(t, "("+strings.Repeat(one, 64)+")V")
		askNoMethod(t, "("+strings.Repeat(one, 100000)+")V")
		for n := range 33 {
			two := slices.Repeat([]string{"J"}, n)
			rest := max(63-2*n, 0)
			l := append(two, slices.Repeat([]string{one}, rest)...)
			if n <= 31 {
				askMethod(t, "("+strings.Join(l, "")+")"+one, one, l...)
			} else {
				askNoMethod(t, "("+strings.Join(l, "")+")"+one)
			}
			askNoMethod(t, "("+strings.Join(l, "")+one+")V")
			askNoMethod(t, "("+one+strings.Join(l, "")+")V")
		}
	}
}

// P13.1: slots, of texts of all kinds.
func TestSlots(t *testing.T) {
	for s, want := range map[string]int{
		"J": 2, "V": 0, "": 0,
		"B": 1, "C": 1, "S": 1, "Z": 1, "I": 1, "La;": 1, "[J": 1, "[[I": 1, "JJ": 1, "VV": 1, "j": 1, "v": 1, "x": 1, "()V": 1, " ": 1, "\x00": 1, "LJ;": 1, "[V": 1, "[": 1,
	} {
		if got := Slots(s); got != want {
			t.Errorf("Slots(%q) = %d, not %d", s, got, want)
		}
	}
}

// P13.1: each byte in names and descriptors, the only one, the first, the last, and among others.
func TestBytes(t *testing.T) {
	for c := range 256 {
		b := string([]byte{byte(c)})
		for _, around := range [][2]string{{"", ""}, {"a", ""}, {"", "b"}, {"a", "b"}, {"a/", "/b"}, {"a/b", "c"}} {
			s := around[0] + b + around[1]
			askClass(t, s, modelClass(s))
			askMember(t, s, modelMember(s, false), modelMember(s, true))
		}
		for _, around := range [][2]string{{"", ""}, {"[", ""}, {"", "I"}, {"I", ""}, {"", ";"}, {"L", ";"}, {"La", ";"}, {"La", ""}, {"[[L", "/b;"}} {
			s := around[0] + b + around[1]
			if got := Desc(s); got != modelDesc(s) {
				t.Errorf("Desc(%q) = %v", s, got)
			}
			for _, m := range []string{"(" + s + ")V", "()" + s, "(I" + s + "J)V", s + "()V", s + ")V", "(" + s + "V", "(I" + s, "()V" + s} {
				params, result, e := modelMethod(m)
				if e == api.OK {
					askMethod(t, m, result, params...)
				} else {
					askNoMethod(t, m)
				}
			}
		}
	}
}

// P13.1: whatever the texts are, the answers are the model's.
func TestAnyText(t *testing.T) {
	c := chance(7)
	met := map[string]int{}
	for range 100000 {
		var b strings.Builder
		b.WriteString(c.of("", "(", "(", "L", "["))
		for range c.below(14) {
			b.WriteString(c.of("I", "J", "B", "C", "S", "Z", "V", "La;", "La/b;", "[", "[[", "[I", "a", "/", ";", "L", "(", ")", "c/d", ")V", ")I", "I", "J", "J", strings.Repeat("J", 14), strings.Repeat("x", 20), ".", "\xff", "<init>"))
		}
		b.WriteString(c.of("", "", ")V", ")I", ";", ")La;", ")["))
		s := b.String()
		askClassAlone(t, s, met)
		if got := Desc(s); got != modelDesc(s) {
			t.Fatalf("Desc(%q) = %v", s, got)
		} else if got {
			met["desc"]++
		}
		params, result, e := modelMethod(s)
		if l, r, e2 := Method(s); e2 != e || r != result || !slices.Equal(l, params) {
			t.Fatalf("Method(%q) = %q, %q, %d, not %q, %q, %d", s, l, r, e2, params, result, e)
		}
		if e == api.OK {
			met["method"]++
		}
	}
	for _, k := range []string{"class", "member", "desc", "method"} {
		if met[k] < 50 {
			t.Errorf("%s was met %d times", k, met[k])
		}
	}
}

// askClassAlone asks for a class's and a member's name, whatever the text is.
func askClassAlone(t *testing.T, s string, met map[string]int) {
	t.Helper()
	if got := Class(s); got != modelClass(s) {
		t.Fatalf("Class(%q) = %v", s, got)
	} else if got {
		met["class"]++
	}
	for _, method := range []bool{false, true} {
		if got := Member(s, method); got != modelMember(s, method) {
			t.Fatalf("Member(%q, %v) = %v", s, method, got)
		} else if got {
			met["member"]++
		}
	}
}

// P13.3: descriptors put into brackets are a method's, in their order.
func TestBrackets(t *testing.T) {
	c := chance(9)
	for range 20000 {
		var params []string
		slots := 0
		for range c.below(40) {
			d := strings.Repeat("[", c.below(3)*c.below(5)) + c.of("B", "C", "S", "Z", "I", "J", "J", "La;", "LI;", "Ljava/lang/Object;")
			params = append(params, d)
			slots += Slots(d)
		}
		result := c.of("V", "I", "J", "[J", "La/b;")
		s := "(" + strings.Join(params, "") + ")" + result
		if slots <= 63 {
			askMethod(t, s, result, params...)
		} else {
			askNoMethod(t, s)
		}
	}
}

// P13.1, P13.2: units at the edges of their forms.
func TestUnits(t *testing.T) {
	askUnits(t, "")
	askUnits(t, "a\xc0\x80", 0x61, 0)
	askUnits(t, "\x01\x7f", 1, 0x7f)
	askUnits(t, "\xc2\x80\xdf\xbf", 0x80, 0x7ff)
	askUnits(t, "\xe0\xa0\x80\xef\xbf\xbf", 0x800, 0xffff)
	askUnits(t, "\xed\xa0\xbd\xed\xb8\x80", 0xd83d, 0xde00)
	askUnits(t, "\xed\xb8\x80\xed\xa0\xbd\xed\x9f\xbf\xee\x80\x80", 0xde00, 0xd83d, 0xd7ff, 0xe000)
	askUnits(t, "\xc3\xbc\xe2\x82\xac", 0xfc, 0x20ac)
	for _, s := range []string{
		"\x00", "a\x00", "\x00a", "\x80", "\xbf", "a\x80",
		"\xc0", "\xc0a", "\xc0\x81", "\xc0\xbf", "\xc1\x80", "\xc1\xbf", "\xc2", "\xc2a", "\xc2\x00", "\xc2\x7f", "\xc2\xc0", "\xdf", "\xc0\x00", "\xc0\xc0",
		"\xe0", "\xe0\xa0", "\xe0\x80\x80", "\xe0\x81\x81", "\xe0\x82\x80", "\xe0\x9f\xbf", "\xe1\x80", "\xe1\x80a", "\xe1a\x80", "\xe1\x00\x80", "\xe1\xc0\x80", "\xe1\x80\xc0", "\xef\xbf", "\xe1\x80\x00",
		"\xf0", "\xf0\x9f\x98\x80", "\xf4\x8f\xbf\xbf", "\xf8\x80\x80\x80\x80", "\xff", "\xfe", "\xfe\xff", "\xf0\x80\x80",
		strings.Repeat("a", 100000) + "\xc2",
	} {
		askNoUnits(t, s)
		askNoUnits(t, "ab\xc3\xbc"+s)
		askNoUnits(t, s+"\x00")
	}
}

// P13.1, P13.2: each unit by itself, and all of them in a row.
func TestEachUnit(t *testing.T) {
	forms, _ := modelForms()
	all := make([]uint16, len(forms))
	for u, form := range forms {
		if t.Failed() {
			return
		}
		askUnits(t, form, uint16(u))
		askUnits(t, "x"+form+form, 'x', uint16(u), uint16(u))
		for n := 1; n < len(form); n++ {
			askNoUnits(t, form[:n])
			askNoUnits(t, form[n:])
		}
		all[u] = uint16(u)
	}
	askUnits(t, strings.Join(forms, ""), all...)
	slices.Reverse(all)
	slices.Reverse(forms)
	askUnits(t, strings.Join(forms, ""), all...)
}

// P13.1: all texts of up to three bytes.
func TestShortTexts(t *testing.T) {
	_, units := modelForms()
	for a := range 256 {
		for b := range 256 {
			two := string([]byte{byte(a), byte(b)})
			askLikeModel(t, units, two[:1])
			askLikeModel(t, units, two)
			if !testing.Short() && (a >= 0xc0 || a%61 == 0) {
				for c := range 256 {
					askLikeModel(t, units, two+string([]byte{byte(c)}))
				}
			}
		}
	}
}

// askLikeModel asks that a text's units are the model's.
func askLikeModel(t *testing.T, units map[string]uint16, s string) {
	t.Helper()
	want, wantError := modelUnits(units, s)
	if u, e := Units(s); e != wantError || !slices.Equal(u, want) {
		t.Fatalf("Units(% x) = %x, %d, not %x, %d", s, u, e, want, wantError)
	}
	if wantError == api.OK && Text(want) != s {
		t.Fatalf("Text(%x) = % x, not % x", want, Text(want), s)
	}
}

// P13.1, P13.2: longer texts, some of whose bytes were changed.
func TestAnyUnits(t *testing.T) {
	forms, units := modelForms()
	c := chance(3)
	for range 30000 {
		var b []byte
		for range c.below(12) {
			b = append(b, forms[c.below(65536)>>c.below(16)]...)
		}
		askLikeModel(t, units, string(b))
		if len(b) > 0 {
			b[c.below(len(b))] = byte(c.below(256))
			askLikeModel(t, units, string(b))
			askLikeModel(t, units, string(b[:c.below(len(b))]))
		}
	}
}

// P13.1: what is answered is new memory.
func TestApart(t *testing.T) {
	one, _, _ := Method("(IJ)V")
	two, _, _ := Method("(IJ)V")
	one[0] = "x"
	_ = append(one[:1], "y")
	if two[0] != "I" || two[1] != "J" {
		t.Error(two)
	}
	u, _ := Units("ab")
	v, _ := Units("ab")
	u[0] = 0
	if v[0] != 'a' {
		t.Error(v)
	}
}
