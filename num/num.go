// Package num has numbers, and rows of texts, as bytes (layer 1).
package num

import (
	"strconv"
	"strings"

	"hibernacle/api"
)

const (
	maxPut    = 8
	more      = 128
	maxLength = 4
)

// Put is the lowest bytes of a number, so many, the lowest one first.
func Put(n uint64, size int) string {
	size = min(max(size, 0), maxPut)
	b := make([]byte, size)
	for i := range b {
		b[i] = byte(n)
		n >>= 8
	}
	return string(b)
}

// Get is the number of at most eight bytes, the lowest one first.
func Get(s string) uint64 {
	var n uint64
	for i := min(len(s), maxPut) - 1; i >= 0; i-- {
		n = n<<8 | uint64(s[i])
	}
	return n
}

// Row is a row of texts as bytes.
func Row(l ...string) string {
	size := 0
	for _, s := range l {
		size += len(s) + maxLength + 1
	}
	var b strings.Builder
	b.Grow(size)
	for _, s := range l {
		putLength(&b, len(s))
		b.WriteString(s)
	}
	return b.String()
}

func putLength(b *strings.Builder, n int) {
	for n >= more {
		b.WriteByte(byte(n) | more)
		n >>= 7
	}
	b.WriteByte(byte(n))
}

// Texts is the row of texts whose bytes these are.
func Texts(b string) ([]string, api.Errno) {
	var l []string
	for len(b) > 0 {
		n, size, e := getLength(b)
		if e != api.OK {
			return nil, e
		}
		b = b[size:]
		if n > len(b) {
			return nil, api.ErrShort
		}
		l = append(l, b[:n])
		b = b[n:]
	}
	return l, api.OK
}

// getLength tells a length in bytes, and how many bytes it takes.
func getLength(b string) (int, int, api.Errno) {
	n := 0
	for i := range maxLength {
		if i == len(b) {
			return 0, 0, api.ErrShort
		}
		c := int(b[i])
		n |= c % more << (7 * i)
		if c >= more {
			continue
		}
		// A last byte of 0 would be another form of a shorter length.
		if c == 0 && i > 0 {
			return 0, 0, api.ErrForm
		}
		return n, i + 1, api.OK
	}
	return 0, 0, api.ErrForm
}

// Dec is a number's decimal text.
func Dec(n int64) string { return strconv.FormatInt(n, 10) }

// Int is the number of a decimal text.
func Int(s string) (int64, bool) {
	n, err := strconv.ParseInt(s, 10, 64)
	if err != nil || Dec(n) != s {
		return 0, false
	}
	return n, true
}
