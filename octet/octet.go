// Package octet is layer 2: numbers as bytes, and a reader.
package octet

import (
	"bytes"

	"samovar/api"
)

// widest is how many bytes the widest number has.
const widest = 8

// Reader goes through bytes.
type Reader struct {
	b   []byte
	at  int
	bad bool
}

// Little is the number whose least byte comes first.
func Little(b []byte, at, n int) (int64, api.Errno) {
	if e := lacks(b, at, n); e != api.OK {
		return 0, e
	}
	var v uint64
	for i := range n {
		v |= uint64(b[at+i]) << (8 * i)
	}
	return int64(v), api.OK
}

// Big is the number whose least byte comes last.
func Big(b []byte, at, n int) (int64, api.Errno) {
	if e := lacks(b, at, n); e != api.OK {
		return 0, e
	}
	var v uint64
	for i := range n {
		v = v<<8 | uint64(b[at+i])
	}
	return int64(v), api.OK
}

// lacks tells why b has no number of n bytes at a place.
func lacks(b []byte, at, n int) api.Errno {
	if !isWidth(n) || at < 0 {
		return api.ErrArg
	}
	// Not at+n > len(b): that sum may wrap round.
	if at > len(b)-n {
		return api.ErrShort
	}
	return api.OK
}

// isWidth asks whether numbers have n bytes.
func isWidth(n int) bool { return n >= 1 && n <= widest }

// PutLittle is a number's bytes, the least one first.
func PutLittle(n int, v int64) []byte {
	if !isWidth(n) {
		return nil
	}
	b := make([]byte, n)
	for i := range n {
		b[i] = byte(v >> (8 * i))
	}
	return b
}

// PutBig is a number's bytes, the least one last.
func PutBig(n int, v int64) []byte {
	if !isWidth(n) {
		return nil
	}
	b := make([]byte, n)
	for i := range n {
		b[n-1-i] = byte(v >> (8 * i))
	}
	return b
}

// New is a reader at the beginning.
func New(b []byte) *Reader {
	return &Reader{b: bytes.Clone(b)}
}

// Num is the next number of n bytes.
func (r *Reader) Num(n int) int64 {
	if !r.has(n, isWidth(n)) {
		return 0
	}
	v, _ := Big(r.b, r.at, n)
	r.at += n
	return v
}

// Signed is the next number of n bytes, with its sign.
func (r *Reader) Signed(n int) int64 {
	v := r.Num(n)
	if r.Bad() {
		return 0
	}
	// Only now is n known to be a width: a spare count below 0 would panic.
	spare := 8 * (widest - n)
	return v << spare >> spare
}

// Bytes are the next n bytes.
func (r *Reader) Bytes(n int) []byte {
	if !r.has(n, n >= 0) {
		return nil
	}
	b := bytes.Clone(r.b[r.at : r.at+n])
	r.at += n
	return b
}

// has asks whether the next n bytes can be passed, where n is a count that may be; if not, the reader is bad from now on.
func (r *Reader) has(n int, fit bool) bool {
	if r.Bad() {
		return false
	}
	r.bad = !fit || n > r.Left()
	return !r.bad
}

// At is the reader's place.
func (r *Reader) At() int {
	if r == nil {
		return 0
	}
	return r.at
}

// Left is how many bytes are behind it.
func (r *Reader) Left() int {
	if r == nil {
		return 0
	}
	return len(r.b) - r.at
}

// Bad asks whether something was asked for that wasn't there.
func (r *Reader) Bad() bool { return r == nil || r.bad }
