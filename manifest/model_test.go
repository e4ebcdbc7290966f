package manifest

import (
	"regexp"
	"strings"

	"samovar/api"
)

// The words of the chapter, told by the library's patterns. Of a pattern's text (?s) lets a point be any byte.
var (
	modelName  = regexp.MustCompile(`^[A-Za-z0-9][A-Za-z0-9_-]{0,69}$`)
	modelLine  = regexp.MustCompile(`(?s)^([A-Za-z0-9][A-Za-z0-9_-]{0,69}): (.*)$`)
	modelClass = regexp.MustCompile(`^[^\x00-\x20\x7f.;\[\\()<>/]+(\.[^\x00-\x20\x7f.;\[\\()<>/]+)*$`)
)

// modelOne asks whether two names are one.
func modelOne(a, b string) bool { return strings.EqualFold(a, b) }

// modelRead is Read as the chapter tells it.
func modelRead(text string) ([]Pair, api.Errno) {
	if len(text) > api.MaxEntry {
		return nil, api.ErrLong
	}
	text = strings.ReplaceAll(strings.ReplaceAll(text, "\r\n", "\n"), "\r", "\n")
	var l []Pair
	for i, line := range strings.Split(text, "\n") {
		if line == "" {
			break
		}
		if len(line) > 72 || strings.Contains(line, "\x00") {
			return nil, api.ErrLong
		}
		more, goesOn := strings.CutPrefix(line, " ")
		if goesOn && i == 0 {
			return nil, api.ErrManifest
		}
		if goesOn {
			l[len(l)-1].Value += more
			continue
		}
		m := modelLine.FindStringSubmatch(line)
		if m == nil {
			return nil, api.ErrManifest
		}
		for _, p := range l {
			if modelOne(p.Name, m[1]) {
				return nil, api.ErrTwice
			}
		}
		l = append(l, Pair{m[1], m[2]})
	}
	if len(l) == 0 || !modelOne(l[0].Name, "Manifest-Version") {
		return nil, api.ErrManifest
	}
	return l, api.OK
}

// modelMain is Main as the chapter tells it.
func modelMain(text string) (string, api.Errno) {
	l, e := modelRead(text)
	if e != api.OK {
		return "", e
	}
	for _, p := range l {
		if modelOne(p.Name, "Main-Class") && len(p.Value) <= 58 && modelClass.MatchString(latin(p.Value)) {
			return strings.ReplaceAll(p.Value, ".", "/"), api.OK
		}
	}
	return "", api.ErrManifest
}

// latin is a text that has each byte as a letter of its own, so that a pattern sees bytes.
func latin(s string) string {
	var r []rune
	for i := range len(s) {
		r = append(r, rune(s[i]))
	}
	return string(r)
}

// modelWrite is Write as the chapter tells it.
func modelWrite(l []Pair) (string, api.Errno) {
	if len(l) == 0 || !modelOne(l[0].Name, "Manifest-Version") {
		return "", api.ErrManifest
	}
	var b strings.Builder
	for i, p := range l {
		if !modelName.MatchString(latin(p.Name)) || strings.ContainsAny(p.Value, "\x00\n\r") {
			return "", api.ErrManifest
		}
		for _, q := range l[:i] {
			if modelOne(p.Name, q.Name) {
				return "", api.ErrTwice
			}
		}
		for at, c := range []byte(p.Name + ": " + p.Value) {
			if at >= 72 && (at-72)%71 == 0 {
				b.WriteString("\r\n ")
			}
			b.WriteByte(c)
		}
		b.WriteString("\r\n")
	}
	b.WriteString("\r\n")
	if b.Len() > api.MaxEntry {
		return "", api.ErrLong
	}
	return b.String(), api.OK
}
