package image

import (
	"samovar/api"
	"samovar/octet"
)

// parser reads a class file from the front. What it reads behind the first error counts for nothing.
type parser struct {
	r *octet.Reader
	e api.Errno
}

// Parse reads a class file.
func Parse(b []byte) (api.Image, api.Errno) {
	if len(b) > api.MaxEntry {
		return api.Image{}, api.ErrLong
	}
	p := &parser{r: octet.New(b)}
	m := p.image()
	p.need(p.r.Left() == 0 && Holds(m), api.ErrForm)
	if p.e != api.OK {
		return api.Image{}, p.e
	}
	return m, api.OK
}

// need keeps an error, if what is needed isn't so and none was met before.
func (p *parser) need(ok bool, e api.Errno) {
	if !ok && p.e == api.OK {
		p.e = e
	}
}

// image reads all of a class file.
func (p *parser) image() api.Image {
	p.need(string(p.bytes(len(mark))) == mark, api.ErrForm)
	m := api.Image{Minor: p.two(), Major: p.two()}
	p.need(isMajor(m.Major), api.ErrForm)
	m.Pool = p.pool()
	m.Access, m.This, m.Super = p.two(), p.two(), p.two()
	m.Ifaces = list(p, p.two)
	m.Fields = list(p, p.member)
	m.Methods = list(p, p.member)
	m.Attrs = list(p, p.attr)
	return m
}

// num is the next number of n bytes.
func (p *parser) num(n int) int {
	v := p.r.Num(n)
	p.need(!p.r.Bad(), api.ErrShort)
	return int(v)
}

// two is the next number of two bytes.
func (p *parser) two() int { return p.num(2) }

// signed is the next number of n bytes, with its sign.
func (p *parser) signed(n int) int64 {
	v := p.r.Signed(n)
	p.need(!p.r.Bad(), api.ErrShort)
	return v
}

// bytes are the next n bytes.
func (p *parser) bytes(n int) []byte {
	b := p.r.Bytes(n)
	p.need(!p.r.Bad(), api.ErrShort)
	return b
}

// pool reads the constants.
func (p *parser) pool() []api.Const {
	count := p.two()
	p.need(count >= 1 && count <= api.MaxPool, api.ErrForm)
	l := []api.Const{{}}
	for len(l) < count && p.e == api.OK {
		c := p.constant()
		l = append(l, c)
		if c.Tag == api.TagLong {
			p.need(len(l) < count, api.ErrForm)
			l = append(l, api.Const{})
		}
	}
	return l
}

// constant reads a constant.
func (p *parser) constant() api.Const {
	c := api.Const{Tag: p.num(1)}
	switch c.Tag {
	case api.TagText:
		c.Text = string(p.bytes(p.two()))
		p.need(isText(c.Text), api.ErrUtf)
	case api.TagInt:
		c.Num = p.signed(4)
	case api.TagLong:
		c.Num = p.signed(8)
	case api.TagClass, api.TagString:
		c.A = p.two()
	case api.TagField, api.TagMethod, api.TagInterface, api.TagPair:
		c.A, c.B = p.two(), p.two()
	default:
		p.need(false, api.ErrForm)
	}
	return c
}

// list reads how many there are, and each one.
func list[T any](p *parser, one func() T) []T {
	count := p.two()
	p.need(count <= api.MaxMembers, api.ErrForm)
	var l []T
	for len(l) < count && p.e == api.OK {
		l = append(l, one())
	}
	return l
}

// member reads a field or a method.
func (p *parser) member() api.Member {
	return api.Member{Access: p.two(), Name: p.two(), Desc: p.two(), Attrs: list(p, p.attr)}
}

// attr reads an attribute.
func (p *parser) attr() api.Attr {
	return api.Attr{Name: p.two(), Data: p.bytes(p.num(4))}
}
