// Package num writes numbers and texts as bytes of fixed sizes, and reads them.
package num

import (
	"bailiwick/api"
)

// The sizes that there are, in bytes.
const (
	maxSize = 8
	maxText = 255
)

func sizeRight(size int) bool { return 1 <= size && size <= maxSize }

// fits tells if so many bytes are enough for n. A shift by 64 is 0, so that eight bytes always are.
func fits(n uint64, size int) bool { return n>>(8*uint(size)) == 0 }

// Put writes n in so many bytes, the greatest first.
func Put(n uint64, size int) (string, api.Errno) {
	if !sizeRight(size) || !fits(n, size) {
		return "", api.ErrArg
	}
	var b [maxSize]byte
	for i := range size {
		b[size-1-i] = byte(n >> (8 * i))
	}
	return string(b[:size]), api.OK
}

// Take reads a number of so many bytes, and tells what stands behind it.
func Take(b string, size int) (n uint64, rest string, e api.Errno) {
	if !sizeRight(size) {
		return 0, "", api.ErrArg
	}
	if len(b) < size {
		return 0, "", api.ErrForm
	}
	for i := range size {
		n = n<<8 | uint64(b[i])
	}
	return n, b[size:], api.OK
}

// Text writes a text with its length ahead.
func Text(s string) (string, api.Errno) {
	if len(s) > maxText {
		return "", api.ErrLong
	}
	size, e := Put(uint64(len(s)), 1)
	return size + s, e
}

// TakeText reads a text that Text wrote, and tells what stands behind it.
func TakeText(b string) (s, rest string, e api.Errno) {
	n, behind, e := Take(b, 1)
	if e != api.OK || uint64(len(behind)) < n {
		return "", "", api.ErrForm
	}
	return behind[:n], behind[n:], api.OK
}
