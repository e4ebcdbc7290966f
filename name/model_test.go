package name

import (
	"regexp"
	"strings"
	"unicode/utf16"

	"samovar/api"
)

// The words of the chapter, told by the library's patterns. They see each byte as a letter of its own.
const (
	modelPart = `[^\x00-\x20\x7f.;\[\\()<>/]+`
	modelType = `\[{0,8}(?:[BCSZIJ]|L` + modelPart + `(?:/` + modelPart + `)*;)`
)

var (
	modelClasses = regexp.MustCompile(`^` + modelPart + `(/` + modelPart + `)*$`)
	modelMembers = regexp.MustCompile(`^` + modelPart + `$`)
	modelTypes   = regexp.MustCompile(`^` + modelType + `$`)
	modelOne     = regexp.MustCompile(modelType)
	modelMethods = regexp.MustCompile(`^\(((?:` + modelType + `)*)\)(` + modelType + `|V)$`)
)

// latin is a text that has each byte as a letter of its own.
func latin(s string) string {
	var r []rune
	for i := range len(s) {
		r = append(r, rune(s[i]))
	}
	return string(r)
}

// bytesOf is what latin was made of.
func bytesOf(s string) string {
	var b []byte
	for _, r := range s {
		b = append(b, byte(r))
	}
	return string(b)
}

// modelClass is Class as the chapter tells it.
func modelClass(s string) bool { return len(s) <= 58 && modelClasses.MatchString(latin(s)) }

// modelMember is Member as the chapter tells it.
func modelMember(s string, method bool) bool {
	if s == "<init>" || s == "<clinit>" {
		return method
	}
	return len(s) <= 64 && modelMembers.MatchString(latin(s))
}

// modelDesc is Desc as the chapter tells it.
func modelDesc(s string) bool {
	if !modelTypes.MatchString(latin(s)) {
		return false
	}
	bare := strings.TrimLeft(s, "[")
	return len(bare) == 1 || modelClass(bare[1:len(bare)-1])
}

// modelMethod is Method as the chapter tells it.
func modelMethod(s string) ([]string, string, api.Errno) {
	m := modelMethods.FindStringSubmatch(latin(s))
	if m == nil {
		return nil, "", api.ErrForm
	}
	var params []string
	slots := 0
	for _, p := range modelOne.FindAllString(m[1], -1) {
		if !modelDesc(bytesOf(p)) {
			return nil, "", api.ErrForm
		}
		params = append(params, bytesOf(p))
		slots++
		if p == "J" {
			slots++
		}
	}
	result := bytesOf(m[2])
	if slots > 63 || result != "V" && !modelDesc(result) {
		return nil, "", api.ErrForm
	}
	return params, result, api.OK
}

// modelForms are the forms of all units, the units by their forms.
func modelForms() ([]string, map[string]uint16) {
	forms := make([]string, 65536)
	units := map[string]uint16{}
	for u := range 65536 {
		switch {
		case u == 0:
			forms[u] = "\xc0\x80"
		case utf16.IsSurrogate(rune(u)):
			forms[u] = string([]byte{0xed, byte(u/64%64 + 128), byte(u%64 + 128)})
		default:
			forms[u] = string(rune(u))
		}
		units[forms[u]] = uint16(u)
	}
	return forms, units
}

// modelUnits is Units as the chapter tells it, of the forms' units.
func modelUnits(units map[string]uint16, s string) ([]uint16, api.Errno) {
	var l []uint16
	for at := 0; at < len(s); {
		met := false
		for n := 1; n <= 3 && at+n <= len(s) && !met; n++ {
			var u uint16
			if u, met = units[s[at:at+n]]; met {
				l = append(l, u)
				at += n
			}
		}
		if !met {
			return nil, api.ErrUtf
		}
	}
	return l, api.OK
}
