// Package octet is layer 1: see shared/doc/01-octet.md.
package octet

import (
	"strings"

	"copyhold/api"
)

// longest is how many figures of 7 bits a number of 64 bits may have.
const longest = 10

// Num is a number's bytes.
func Num(n uint64) string {
	var b []byte
	for n >= 128 {
		b = append(b, byte(n)|128)
		n >>= 7
	}
	return string(append(b, byte(n)))
}

// Text is a text's bytes.
func Text(s string) string { return lay(Num(uint64(len(s))), s) }

// List are texts' bytes.
func List(l []string) string {
	parts := []string{Num(uint64(len(l)))}
	for _, s := range l {
		parts = append(parts, Text(s))
	}
	return lay(parts...)
}

// lay lays texts one behind the other.
func lay(parts ...string) string { return strings.Join(parts, "") }

// TakeNum takes a number.
func TakeNum(s string) (uint64, string, api.Errno) {
	at := 0
	next := func() (byte, bool) {
		if at >= len(s) {
			return 0, false
		}
		at++
		return s[at-1], true
	}
	var n uint64
	var last byte
	for i := range longest {
		b, ok := next()
		if !ok {
			return 0, "", api.ErrMore
		}
		n |= uint64(b&127) << (7 * i)
		last = b
		if b < 128 {
			goto end
		}
	}
	return 0, "", api.ErrForm
end:
	// Nine figures are 63 bits: the tenth one may be 1 at most.
	if at == longest && last > 1 || at > 1 && last == 0 {
		return 0, "", api.ErrForm
	}
	return n, s[at:], api.OK
}

// takeCount takes a number that is at most most.
func takeCount(s string, most int) (uint64, string, api.Errno) {
	n, rest, e := TakeNum(s)
	if e != api.OK {
		return 0, "", e
	}
	if most < 0 || n > uint64(most) {
		return 0, "", api.ErrBig
	}
	return n, rest, api.OK
}

// TakeText takes a text.
func TakeText(s string, most int) (string, string, api.Errno) {
	n, rest, e := takeCount(s, most)
	if e != api.OK {
		return "", "", e
	}
	if n > uint64(len(rest)) {
		return "", "", api.ErrMore
	}
	return rest[:n], rest[n:], api.OK
}

// TakeList takes texts.
func TakeList(s string, most, long int) ([]string, string, api.Errno) {
	n, rest, e := takeCount(s, most)
	if e != api.OK {
		return nil, "", e
	}
	// No room is made ahead: the number may be far above what is there.
	var l []string
	for range n {
		var t string
		if t, rest, e = TakeText(rest, long); e != api.OK {
			return nil, "", e
		}
		l = append(l, t)
	}
	return l, rest, api.OK
}

// Fold is a number without a sign.
func Fold(n int) uint64 {
	if n < 0 {
		// Twice -n, less 1, without the one -n that goes round.
		return 2*uint64(-(n+1)) + 1
	}
	return 2 * uint64(n)
}

// Unfold is the number of that.
func Unfold(n uint64) int {
	if n%2 == 1 {
		return -int(n/2) - 1
	}
	return int(n / 2)
}
