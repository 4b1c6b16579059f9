// Package pack: numbers, texts as bytes: see doc/01-pack.md.
package pack

import "copyhold/api"

const (
	numBytes  = 8 // of a number
	headBytes = 2 // of a text: how long it is
	maxText   = 1<<(8*headBytes) - 1
	asTold    = -1 // a field as long as the one ahead of it says
)

// Num gives eight bytes, the lowest first.
func Num(n uint64) string { return lowestFirst(n, numBytes) }

// Text gives how long s is, in two bytes, and s; of a longer s just what these two bytes can count.
func Text(s string) string {
	s = s[:min(len(s), maxText)]
	return lowestFirst(uint64(len(s)), headBytes) + s
}

func lowestFirst(n uint64, width int) string {
	out := make([]byte, width)
	for i := range out {
		out[i] = byte(n >> (8 * i))
	}
	return string(out)
}

// number is lowestFirst turned round; of no bytes it is 0.
func number(field []byte) uint64 {
	n := uint64(0)
	for i, b := range field {
		n |= uint64(b) << (8 * i)
	}
	return n
}

// Cut is bytes of which numbers and texts are taken from the front.
type Cut struct {
	rest  []byte
	short bool // for good: who asks on past a lack gets nothing that lies askew
}

// New makes a Cut of the bytes of s.
func New(s string) *Cut { return &Cut{rest: []byte(s)} }

// Num takes a number from the front.
func (c *Cut) Num() uint64 { return number(c.take(numBytes)) }

// Text takes a text from the front.
func (c *Cut) Text() string { return string(c.take(headBytes, asTold)) }

// Left tells how many bytes are left.
func (c *Cut) Left() int { return len(c.rest) }

// Err tells whether bytes have lacked.
func (c *Cut) Err() error {
	if c.short {
		return api.ErrShort
	}
	return nil
}

// take takes fields of these widths from the front, all of them or none, and gives the last one.
func (c *Cut) take(widths ...int) []byte {
	var field []byte
	at := 0
fields:
	for _, width := range widths {
		if width == asTold {
			width = int(number(field))
		}
		field = field[:0]
		for range width {
			if at == len(c.rest) {
				c.short = true
				break fields
			}
			field = append(field, c.rest[at])
			at++
		}
	}
	if c.short { // now, or from an earlier call on
		return nil
	}
	c.rest = c.rest[at:]
	return field
}

// Sum gives a number by which bytes that were changed are seen.
func Sum(s string) uint64 {
	sum := uint64(5381)
	for i := range len(s) {
		sum = sum*33 + uint64(s[i])
	}
	return sum
}
