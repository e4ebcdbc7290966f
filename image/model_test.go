package image

import (
	"bytes"
	"encoding/binary"
	"math"
	"slices"

	"samovar/api"
	"samovar/name"
)

// modelBytes is a class file as the chapter tells it, laid by the library's means, whether the image holds or not.
func modelBytes(m api.Image) []byte {
	var b bytes.Buffer
	put := func(all ...any) {
		for _, x := range all {
			if n, ok := x.(int); ok {
				x = uint16(n)
			}
			binary.Write(&b, binary.BigEndian, x)
		}
	}
	attrs := func(l []api.Attr) {
		put(len(l))
		for _, a := range l {
			put(a.Name, uint32(len(a.Data)), a.Data)
		}
	}
	put(uint32(0xcafebabe), m.Minor, m.Major, len(m.Pool))
	for _, c := range m.Pool {
		switch c.Tag {
		case 0:
		case 1:
			put(uint8(1), len(c.Text), []byte(c.Text))
		case 3:
			put(uint8(3), int32(c.Num))
		case 5:
			put(uint8(5), c.Num)
		case 7, 8:
			put(uint8(c.Tag), c.A)
		default:
			put(uint8(c.Tag), c.A, c.B)
		}
	}
	put(m.Access, m.This, m.Super, len(m.Ifaces))
	for _, i := range m.Ifaces {
		put(i)
	}
	for _, l := range [][]api.Member{m.Fields, m.Methods} {
		put(len(l))
		for _, x := range l {
			put(x.Access, x.Name, x.Desc)
			attrs(x.Attrs)
		}
	}
	attrs(m.Attrs)
	return b.Bytes()
}

// modelHolds is Holds as the chapter tells it: all numbers of two bytes, all places and what has to be there, and all lists are gathered, then asked.
func modelHolds(m api.Image) bool {
	if len(m.Pool) == 0 || len(m.Pool) > 1024 || m.Major < 45 || m.Major > 52 {
		return false
	}
	type want struct{ at, tag int }
	var wants []want
	numbers := []int{m.Minor, m.Access}
	counts := []int{len(m.Ifaces), len(m.Fields), len(m.Methods), len(m.Attrs)}
	attrs := slices.Clone(m.Attrs)
	wants = append(wants, want{m.This, 7})
	if m.Super != 0 {
		wants = append(wants, want{m.Super, 7})
	}
	for _, i := range m.Ifaces {
		wants = append(wants, want{i, 7})
	}
	for _, x := range slices.Concat(m.Fields, m.Methods) {
		numbers = append(numbers, x.Access)
		wants = append(wants, want{x.Name, 1}, want{x.Desc, 1})
		counts = append(counts, len(x.Attrs))
		attrs = append(attrs, x.Attrs...)
	}
	for _, a := range attrs {
		wants = append(wants, want{a.Name, 1})
		if len(a.Data) > 32768 {
			return false
		}
	}
	unused := true // is this place one that has nothing?
	for _, c := range m.Pool {
		if unused != (c.Tag == 0) || unused && c != (api.Const{}) {
			return false
		}
		unused = c.Tag == 5
		rest := c
		rest.Tag = 0
		switch c.Tag {
		case 1:
			if _, e := name.Units(c.Text); e != api.OK || len(c.Text) > 65535 {
				return false
			}
			rest.Text = ""
		case 3:
			if c.Num < math.MinInt32 || c.Num > math.MaxInt32 {
				return false
			}
			rest.Num = 0
		case 5:
			rest.Num = 0
		case 7, 8:
			wants = append(wants, want{c.A, 1})
			rest.A = 0
		case 9, 10, 11:
			wants = append(wants, want{c.A, 7}, want{c.B, 12})
			rest.A, rest.B = 0, 0
		case 12:
			wants = append(wants, want{c.A, 1}, want{c.B, 1})
			rest.A, rest.B = 0, 0
		case 0:
		default:
			return false
		}
		if rest != (api.Const{}) {
			return false
		}
	}
	if unused {
		return false
	}
	for _, n := range numbers {
		if n != int(uint16(n)) {
			return false
		}
	}
	for _, n := range counts {
		if n > 64 {
			return false
		}
	}
	for _, w := range wants {
		if w.at < 1 || w.at >= len(m.Pool) || m.Pool[w.at].Tag != w.tag {
			return false
		}
	}
	return true
}

// modelRead goes through bytes; what is refused leaves it by a panic.
type modelRead struct{ b []byte }

func (r *modelRead) take(n int) []byte {
	if n > len(r.b) {
		panic(api.ErrShort)
	}
	b := r.b[:n]
	r.b = r.b[n:]
	return b
}

func (r *modelRead) byte() int    { return int(r.take(1)[0]) }
func (r *modelRead) two() int     { return int(binary.BigEndian.Uint16(r.take(2))) }
func (r *modelRead) four() uint32 { return binary.BigEndian.Uint32(r.take(4)) }

func (r *modelRead) count() int {
	n := r.two()
	if n > 64 {
		panic(api.ErrForm)
	}
	return n
}

func (r *modelRead) attrs() (l []api.Attr) {
	for range r.count() {
		at := r.two()
		l = append(l, api.Attr{Name: at, Data: bytes.Clone(r.take(int(r.four())))})
	}
	return l
}

func (r *modelRead) members() (l []api.Member) {
	for range r.count() {
		var x api.Member
		x.Access = r.two()
		x.Name = r.two()
		x.Desc = r.two()
		x.Attrs = r.attrs()
		l = append(l, x)
	}
	return l
}

func (r *modelRead) pool() []api.Const {
	count := r.two()
	if count == 0 || count > 1024 {
		panic(api.ErrForm)
	}
	l := make([]api.Const, count)
	for at := 1; at < count; at++ {
		c := &l[at]
		c.Tag = r.byte()
		switch c.Tag {
		case 1:
			c.Text = string(r.take(r.two()))
			if _, e := name.Units(c.Text); e != api.OK {
				panic(api.ErrUtf)
			}
		case 3:
			c.Num = int64(int32(r.four()))
		case 5:
			high := int64(r.four())
			c.Num = high<<32 | int64(r.four())
			at++
			if at == count {
				panic(api.ErrForm)
			}
		case 7, 8:
			c.A = r.two()
		case 9, 10, 11, 12:
			c.A = r.two()
			c.B = r.two()
		default:
			panic(api.ErrForm)
		}
	}
	return l
}

// modelParse is Parse as the chapter tells it.
func modelParse(b []byte) (m api.Image, e api.Errno) {
	if len(b) > 32768 {
		return m, api.ErrLong
	}
	defer func() {
		if x := recover(); x != nil {
			m, e = api.Image{}, x.(api.Errno)
		}
	}()
	r := &modelRead{b}
	if r.four() != 0xcafebabe {
		panic(api.ErrForm)
	}
	m.Minor = r.two()
	m.Major = r.two()
	if m.Major < 45 || m.Major > 52 {
		panic(api.ErrForm)
	}
	m.Pool = r.pool()
	m.Access = r.two()
	m.This = r.two()
	m.Super = r.two()
	for range r.count() {
		m.Ifaces = append(m.Ifaces, r.two())
	}
	m.Fields = r.members()
	m.Methods = r.members()
	m.Attrs = r.attrs()
	if len(r.b) > 0 || !modelHolds(m) {
		panic(api.ErrForm)
	}
	return m, api.OK
}
