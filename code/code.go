// Package code is layer 1: numbers and texts as bytes. See shared/doc/01-code.md.
package code

import (
	"slices"

	"sorites/api"
)

const (
	groupBits = 7              // bits of a number that one byte holds
	more      = 1 << groupBits // set in each byte but the last one
	maxBytes  = 10             // 64 bits are nine groups and one bit
	topMost   = 1              // that one bit is all that a tenth byte may hold
)

// PutUint: a number's bytes behind others.
func PutUint(b []byte, n uint64) []byte {
	return appendUint(copyWithRoom(b, Len(n)), n)
}

// Uint: a number at a place.
func Uint(b []byte, at int) (uint64, int, api.Err) {
	if at < 0 || at > len(b) {
		return 0, 0, api.Arg
	}
	// The last byte is looked for to b's very end, however many bytes that
	// are: End comes ahead of Form.
	last := slices.IndexFunc(b[at:], isLast)
	if last < 0 {
		return 0, 0, api.End
	}
	next := at + last + 1
	if !isNumber(b[at:next]) {
		return 0, 0, api.Form
	}
	return join(b[at:next]), next, api.OK
}

// PutInt: a whole number's bytes behind others.
func PutInt(b []byte, n int64) []byte {
	return PutUint(b, fold(n))
}

// Int: a whole number at a place.
func Int(b []byte, at int) (int64, int, api.Err) {
	n, next, err := Uint(b, at)
	if err != api.OK {
		return 0, 0, err
	}
	return unfold(n), next, api.OK
}

// PutText: a text's bytes behind others.
func PutText(b []byte, s string) []byte {
	size := uint64(len(s))
	b = copyWithRoom(b, Len(size)+len(s))
	return append(appendUint(b, size), s...)
}

// Text: at a place.
func Text(b []byte, at int) (string, int, api.Err) {
	size, from, err := Uint(b, at)
	if err != api.OK {
		return "", 0, err
	}
	// Held against what is left as it was read: as an int it could go round.
	if size > uint64(len(b)-from) {
		return "", 0, api.End
	}
	next := from + int(size)
	return string(b[from:next]), next, api.OK
}

// Len: how many bytes a number has.
func Len(n uint64) int {
	count := 1
	for n >>= groupBits; n > 0; n >>= groupBits {
		count++
	}
	return count
}

// copyWithRoom copies even where b has room of its own: a caller may put
// twice behind the same bytes, and the answers must not share memory.
func copyWithRoom(b []byte, room int) []byte {
	return append(make([]byte, 0, len(b)+room), b...)
}

func appendUint(b []byte, n uint64) []byte {
	for ; n >= more; n >>= groupBits {
		b = append(b, byte(n)|more)
	}
	return append(b, byte(n))
}

func isLast(c byte) bool {
	return c < more
}

// isNumber tells whether bytes of which just the last one ends a number are
// the ones that PutUint would write.
func isNumber(b []byte) bool {
	top := b[len(b)-1]
	switch {
	case len(b) > maxBytes:
		return false
	case len(b) == maxBytes && top > topMost:
		return false
	}
	return top != 0 || len(b) == 1
}

func join(b []byte) uint64 {
	n := uint64(0)
	for i, c := range b {
		n |= uint64(c&^more) << (groupBits * i)
	}
	return n
}

// fold lays the whole numbers beside each other (0, -1, 1, -2, ..), so that
// those near 0 take few bytes on either side of it.
func fold(n int64) uint64 {
	return uint64(n)<<1 ^ uint64(n>>63)
}

func unfold(n uint64) int64 {
	return int64(n>>1) ^ -int64(n&1)
}
