// Package varint is layer 1: integers of variable length, and strings with their length ahead.
package varint

import "thwart/api"

// The bits of a group, the mark of a byte that another one follows, and the bytes that the 64 bits of a number need at most.
const (
	groupBits = 7
	more      = 1 << groupBits
	mostBytes = 10
)

// Put encodes n in groups of seven bits, the lowest first, in as few bytes as possible.
func Put(n uint64) string {
	return string(groups(n))
}

// groups limits the capacity, so that an append to the result never reaches the unused rest of the array.
func groups(n uint64) []byte {
	var a [mostBytes]byte
	used := 0
	for n >= more {
		a[used] = byte(n%more) + more
		n >>= groupBits
		used++
	}
	a[used] = byte(n)
	used++
	return a[:used:used]
}

// Take decodes the number that b begins with, and returns the bytes after it.
func Take(b string) (uint64, string, api.Errno) {
	size := encodedSize(b)
	if size == 0 {
		if len(b) < mostBytes {
			return 0, "", api.ErrShort
		}
		return 0, "", api.ErrForm
	}
	n := value(b[:size])
	// Encoding again refuses both needless groups and bits beyond the 64th, which value drops.
	if Put(n) != b[:size] {
		return 0, "", api.ErrForm
	}
	return n, b[size:], api.OK
}

// encodedSize counts the bytes up to the first one without a mark; 0 if none of those that a number can have is without.
func encodedSize(b string) int {
	for i := range min(len(b), mostBytes) {
		if b[i] < more {
			return i + 1
		}
	}
	return 0
}

// value puts the groups of b together.
func value(b string) uint64 {
	n := uint64(0)
	for i := range len(b) {
		n |= uint64(b[i]%more) << (groupBits * i)
	}
	return n
}

// Zig maps numbers with a sign to those without one, so that numbers near 0 have short encodings.
func Zig(n int64) uint64 {
	if n < 0 {
		// The complement is -n - 1, which fits for the least number too, where -n does not.
		return 2*uint64(^n) + 1
	}
	return 2 * uint64(n)
}

// Zag is the inverse of Zig.
func Zag(n uint64) int64 {
	half := int64(n / 2)
	if n%2 == 1 {
		return ^half
	}
	return half
}

// Text encodes s with its length ahead.
func Text(s string) string {
	return Put(uint64(len(s))) + s
}

// OfText decodes the string that b begins with, and returns the bytes after it.
func OfText(b string) (string, string, api.Errno) {
	n, rest, err := Take(b)
	if err != api.OK {
		return "", "", err
	}
	// Compared without a sign: a length may be too great for an int.
	if n > uint64(len(rest)) {
		return "", "", api.ErrShort
	}
	return rest[:n], rest[n:], api.OK
}
