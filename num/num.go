// Package num is layer 1: see shared/doc/01-num.md.
package num

import (
	"mantelet/api"
)

const (
	bitsPerByte = 7
	more        = 1 << bitsPerByte // what a byte has more, if another one follows
	mostBytes   = 10               // 64 bits, seven a byte
	lastByte    = 1                // nine bytes hold 63 bits: the tenth one has room for a single one
)

// Put puts a number behind bytes.
func Put(b []byte, n uint64) []byte {
	// A slice of its own: behind b there may be room that is the caller's.
	out := make([]byte, 0, len(b)+mostBytes)
	out = append(out, b...)
	for n >= more {
		out = append(out, byte(n%more)+more)
		n >>= bitsPerByte
	}
	return append(out, byte(n))
}

// Get is the number with which bytes begin.
func Get(b []byte) (uint64, int, api.Errno) {
	var n uint64
	fault := api.ErrShort
read:
	for i, c := range b {
		n |= uint64(c%more) << (bitsPerByte * i)
		switch {
		case i == mostBytes-1 && c > lastByte:
			fault = api.ErrForm
			break read
		case i > 0 && c == 0: // fewer bytes would have been enough
			fault = api.ErrForm
			break read
		case c < more:
			return n, i + 1, api.OK
		}
	}
	return 0, 0, fault
}

// Add is a sum; false: it is too great.
func Add(a, b uint64) (uint64, bool) {
	// Held against what is left, as the sum itself may wrap round.
	if a > api.MaxCount || b > api.MaxCount-a {
		return 0, false
	}
	return a + b, true
}
