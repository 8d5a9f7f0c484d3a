// Package code is layer 2: see shared/doc/02-code.md.
package code

import (
	"folkmoot/api"
)

const (
	more    = 0x80 // in a byte of a number: another one follows
	longest = 10   // bytes of a number of 64 bits
	sumSize = 4
	poly    = 0xedb88320
)

// Uint: p, and behind it a number as bytes: seven bits each, the lowest first.
func Uint(p []byte, n uint64) []byte {
	p = full(p)
	for n >= more {
		p = append(p, byte(n)|more)
		n >>= 7
	}
	return append(p, byte(n))
}

// Bytes: p, and behind it bytes, and how many they are ahead.
func Bytes(p, b []byte) []byte {
	return append(Uint(p, uint64(len(b))), b...)
}

// full: p without spare room: what is appended to it is laid into new memory, not behind the caller's bytes.
func full(p []byte) []byte {
	return p[:len(p):len(p)]
}

// Reader reads what was written; behind its first fault it reads nothing.
type Reader struct {
	rest []byte
	bad  bool
}

// NewReader: a reader of some bytes, of which it keeps a copy: the caller may write over them.
func NewReader(p []byte) *Reader {
	return &Reader{rest: append([]byte(nil), p...)}
}

// Uint: the next number, the shortest that there is of it.
func (r *Reader) Uint() uint64 {
	if r.Bad() {
		return 0
	}
	n, size := number(r.rest)
	if size == 0 {
		r.fail()
		return 0
	}
	r.rest = r.rest[size:]
	return n
}

// Int: the next number, at most that.
func (r *Reader) Int(most int) int {
	n := r.Uint()
	if r.Bad() {
		return 0
	}
	if most < 0 || n > uint64(most) {
		r.fail()
		return 0
	}
	return int(n)
}

// Bytes: the next bytes, at most so many.
func (r *Reader) Bytes(most int) []byte {
	n := r.Int(most)
	if r.Bad() {
		return nil
	}
	if n > len(r.rest) {
		r.fail()
		return nil
	}
	part := r.rest[:n:n]
	r.rest = r.rest[n:]
	return append([]byte(nil), part...)
}

// Left: how many bytes are left.
func (r *Reader) Left() int {
	if r.Bad() {
		return 0
	}
	return len(r.rest)
}

// Bad: was there a fault?
func (r *Reader) Bad() bool {
	return r == nil || r.bad
}

func (r *Reader) fail() {
	r.rest, r.bad = nil, true
}

// number: the number with which p begins, and how many bytes it has; 0: p begins with none that Uint writes.
func number(p []byte) (n uint64, size int) {
	for i, b := range p {
		if i == longest-1 && b > 1 {
			return 0, 0
		}
		n |= uint64(b%more) << (7 * i)
		if b >= more {
			continue
		}
		if b == 0 && i > 0 {
			return 0, 0
		}
		return n, i + 1
	}
	return 0, 0
}

// Sum: CRC-32.
func Sum(p []byte) uint32 {
	s := ^uint32(0)
	for _, b := range p {
		s ^= uint32(b)
		for range 8 {
			low := s & 1
			s = s>>1 ^ poly*low
		}
	}
	return ^s
}

// sum: Sum as the bytes that stand in what is sealed.
func sum(p []byte) [sumSize]byte {
	var b [sumSize]byte
	s := Sum(p)
	for i := range sumSize {
		b[i] = byte(s >> (8 * i))
	}
	return b
}

// Seal: bytes with their sum behind them.
func Seal(p []byte) []byte {
	s := sum(p)
	return append(full(p), s[:]...)
}

// Open: the bytes that were sealed.
func Open(p []byte) ([]byte, api.Errno) {
	at := len(p) - sumSize
	if at < 0 {
		return nil, api.ErrForm
	}
	inner := p[:at:at]
	var last [sumSize]byte
	copy(last[:], p[at:])
	if last != sum(inner) {
		return nil, api.ErrSum
	}
	return append([]byte(nil), inner...), api.OK
}
