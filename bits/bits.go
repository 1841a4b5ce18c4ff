// Package bits is layer 1: numbers, texts and lists as bytes. See shared/doc/01-bits.md.
package bits

import "slices"

const (
	base      = 128 // of a number's digits; a digit that isn't the last one has it added
	shift     = 7   // how many bits a digit has
	maxDigits = 10  // as many as 64 bits need
	maxTenth  = 1   // 9 digits hold 63 bits, so one bit is left for the tenth
)

// Int: a number as bytes.
func Int(n int) []byte { return addInt(nil, n) }

// Text: a text as bytes.
func Text(s string) []byte { return addText(nil, s) }

// Texts: a list of texts as bytes.
func Texts(list []string) []byte {
	b := addInt(nil, len(list))
	for _, s := range list {
		b = addText(b, s)
	}
	return b
}

// addInt: bytes with a number's bytes behind them.
func addInt(b []byte, n int) []byte {
	u := fold(n)
	for u >= base {
		b = append(b, byte(u%base+base))
		u /= base
	}
	return append(b, byte(u))
}

// addText: bytes with a text's bytes behind them.
func addText(b []byte, s string) []byte {
	return append(addInt(b, len(s)), s...)
}

// fold: 2n for n of 0 or above, else -2n - 1, so that numbers near 0 are short on both sides.
func fold(n int) uint64 {
	if n < 0 {
		return 2*uint64(-(n+1)) + 1
	}
	return 2 * uint64(n)
}

// unfold: the number whose fold this is.
func unfold(u uint64) int {
	half := int(u / 2)
	if u%2 == 1 {
		return -half - 1
	}
	return half
}

// number: the number that bytes begin with, and how many bytes it has; 0 and 0, if none stands there.
func number(b []byte) (int, int) {
	u := uint64(0)
	for i, digit := range b {
		// This one bound holds off a number above 64 bits and one of more than 10 bytes.
		if i == maxDigits-1 && digit > maxTenth {
			return 0, 0
		}
		u |= uint64(digit%base) << (shift * i)
		if digit >= base {
			continue
		}
		if digit == 0 && i > 0 {
			return 0, 0
		}
		return unfold(u), i + 1
	}
	return 0, 0
}

// Reader reads bytes.
type Reader struct {
	rest []byte
	bad  bool
}

// NewReader: a reader of bytes.
func NewReader(b []byte) *Reader { return &Reader{rest: slices.Clone(b)} }

// spoil: the reader is bad. Without a rest all that is read from then on is nothing, too.
func (r *Reader) spoil() {
	r.rest = nil
	r.bad = true
}

// Int: the next number.
func (r *Reader) Int() int {
	n, size := number(r.rest)
	if size == 0 {
		r.spoil()
		return 0
	}
	r.rest = r.rest[size:]
	return n
}

// Text: the next text.
func (r *Reader) Text() string {
	n := r.Count(len(r.rest))
	if n > len(r.rest) {
		r.spoil()
		return ""
	}
	s := string(r.rest[:n])
	r.rest = r.rest[n:]
	return s
}

// Count: the next number, 0 to most.
func (r *Reader) Count(most int) int {
	n := r.Int()
	if n < 0 || n > most {
		r.spoil()
		return 0
	}
	return n
}

// Texts: the next list of texts.
func (r *Reader) Texts() []string {
	var list []string
	for range r.Count(r.Left()) {
		s := r.Text()
		if r.bad {
			return nil
		}
		list = append(list, s)
	}
	return list
}

// Left: how many bytes are left.
func (r *Reader) Left() int { return len(r.rest) }

// Bad: has something been wrong?
func (r *Reader) Bad() bool { return r.bad }

// Done: nothing was wrong, and nothing is left?
func (r *Reader) Done() bool { return !r.bad && len(r.rest) == 0 }
