package image

import (
	"samovar/api"
	"samovar/octet"
)

// writer lays a class file's bytes, until there are too many.
type writer struct {
	b    []byte
	long bool
}

// Write writes a class file.
func Write(m api.Image) ([]byte, api.Errno) {
	if !Holds(m) {
		return nil, api.ErrForm
	}
	w := &writer{}
	w.image(m)
	if w.long {
		return nil, api.ErrLong
	}
	return w.b, api.OK
}

// image lays all of a class file.
func (w *writer) image(m api.Image) {
	lay(w, mark)
	w.two(m.Minor, m.Major)
	w.two(len(m.Pool))
	for _, c := range m.Pool {
		w.constant(c)
	}
	w.two(m.Access, m.This, m.Super)
	w.two(len(m.Ifaces))
	w.two(m.Ifaces...)
	w.members(m.Fields)
	w.members(m.Methods)
	w.attrs(m.Attrs)
}

// lay lays bytes.
func lay[T string | []byte](w *writer, b T) {
	// Ahead of laying them: what an image that holds has may be very long.
	w.long = w.long || len(b) > api.MaxEntry-len(w.b)
	if !w.long {
		w.b = append(w.b, b...)
	}
}

// num lays a number of n bytes.
func (w *writer) num(n int, v int64) { lay(w, octet.PutBig(n, v)) }

// two lays numbers of two bytes each.
func (w *writer) two(l ...int) {
	for _, v := range l {
		w.num(2, int64(v))
	}
}

// constant lays a constant.
func (w *writer) constant(c api.Const) {
	if c == (api.Const{}) {
		return
	}
	w.num(1, int64(c.Tag))
	switch c.Tag {
	case api.TagText:
		w.two(len(c.Text))
		lay(w, c.Text)
	case api.TagInt:
		w.num(4, c.Num)
	case api.TagLong:
		w.num(8, c.Num)
	case api.TagClass, api.TagString:
		w.two(c.A)
	default:
		w.two(c.A, c.B)
	}
}

// members lays fields or methods.
func (w *writer) members(l []api.Member) {
	w.two(len(l))
	for _, m := range l {
		w.two(m.Access, m.Name, m.Desc)
		w.attrs(m.Attrs)
	}
}

// attrs lays attributes.
func (w *writer) attrs(l []api.Attr) {
	w.two(len(l))
	for _, a := range l {
		w.two(a.Name)
		w.num(4, int64(len(a.Data)))
		lay(w, a.Data)
	}
}
