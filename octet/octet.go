// Package octet is layer 1: numbers, texts and truths as bytes.
// See shared/doc/01-octet.md.
package octet

// numberSize is how many bytes a number has.
const numberSize = 8

// PutInt answers b and behind it the bytes of n, the highest first, in new
// memory.
func PutInt(b []byte, n int64) []byte {
	a := numberBytes(n)
	return join(b, a[:])
}

// PutText answers b and behind it how many bytes s has, and they, in new
// memory.
func PutText(b []byte, s string) []byte {
	a := numberBytes(int64(len(s)))
	return join(b, a[:], []byte(s))
}

// PutBool answers b and behind it the byte 1 or 0, in new memory.
func PutBool(b []byte, x bool) []byte {
	var a [1]byte
	if x {
		a[0] = 1
	}
	return join(b, a[:])
}

// numberBytes shifts n's two's complement into an array.
func numberBytes(n int64) [numberSize]byte {
	var a [numberSize]byte
	u := uint64(n)
	for i := numberSize - 1; i >= 0; i-- {
		a[i] = byte(u)
		u >>= 8
	}
	return a
}

// join lays the parts one behind the other in memory of their own: an append
// to the first one could write into its spare room.
func join(parts ...[]byte) []byte {
	size := 0
	for _, p := range parts {
		size += len(p)
	}
	whole := make([]byte, 0, size)
	for _, p := range parts {
		whole = append(whole, p...)
	}
	return whole
}

// Reader reads numbers, texts and truths one behind the other. Once it is
// bad, it stays so and has no bytes left.
type Reader struct {
	left []byte
	bad  bool
}

// Read answers a reader of what b is now.
func Read(b []byte) *Reader {
	return &Reader{left: join(b)}
}

// Int answers the number at the reader's place and goes on behind it.
func (r *Reader) Int() int64 {
	p, ok := r.take(numberSize)
	if !ok {
		return 0
	}
	var u uint64
	for _, c := range p {
		u = u<<8 | uint64(c)
	}
	return int64(u)
}

// Text answers the text at the reader's place and goes on behind it.
func (r *Reader) Text() string {
	p, ok := r.take(r.Count(1))
	if !ok {
		return ""
	}
	return string(p)
}

// Bool answers the truth at the reader's place and goes on behind it.
func (r *Reader) Bool() bool {
	p, ok := r.take(1)
	if !ok {
		return false
	}
	if p[0] > 1 {
		r.spoil()
		return false
	}
	return p[0] == 1
}

// Count answers the number at the reader's place as one of things that take
// at least least bytes each, so that a spoilt number never asks for more
// memory than there are bytes for.
func (r *Reader) Count(least int) int {
	n := r.Int()
	if n < 0 || n > int64(len(r.left)/max(least, 1)) {
		r.spoil()
		return 0
	}
	return int(n)
}

// Left answers how many bytes are left; 0 of a bad reader.
func (r *Reader) Left() int {
	return len(r.left)
}

// Bad answers whether something could not be read.
func (r *Reader) Bad() bool {
	return r.bad
}

// Done answers whether all was read and nothing was wrong.
func (r *Reader) Done() bool {
	return !r.bad && len(r.left) == 0
}

// take goes on behind the next n bytes and answers them, or spoils the reader
// if there are too few; of a bad one no bytes are left, so that it stays bad.
func (r *Reader) take(n int) ([]byte, bool) {
	if n > len(r.left) {
		r.spoil()
		return nil, false
	}
	p := r.left[:n]
	r.left = r.left[n:]
	return p, true
}

// spoil makes the reader bad; its bytes are let go, as nothing reads them any
// more.
func (r *Reader) spoil() {
	r.left = nil
	r.bad = true
}
