// Package octal is layer 1; see shared/doc/01-octal.md. It implements the fixed-width octal number fields of tar headers: octal digits with leading zeros, followed by a NUL byte.
package octal

import "paxtar/api"

// The 21 digits of the greatest width hold exactly the 63 bits of the greatest int64, so no valid field overflows.
const (
	minWidth = 2
	maxWidth = 22
)

// Max returns the greatest number that fits a field of the given width, or 0 if the width is not valid.
func Max(width int) int64 {
	if !validWidth(width) {
		return 0
	}
	var n int64
	for range width - 1 {
		n = n*8 + 7
	}
	return n
}

// Format encodes a number as an octal field of the given width.
func Format(n int64, width int) ([]byte, api.Errno) {
	if !validWidth(width) {
		return nil, api.ErrArg
	}
	if n < 0 || n > Max(width) {
		return nil, api.ErrRange
	}
	b := make([]byte, width)
	last := width - 2
	for i := range width - 1 {
		b[last-i] = '0' + byte(n%8)
		n /= 8
	}
	return b, api.OK
}

// Parse decodes an octal field.
func Parse(b []byte) (int64, api.Errno) {
	if !validWidth(len(b)) {
		return 0, api.ErrArg
	}
	digits := len(b) - 1
	if b[digits] != 0 {
		return 0, api.ErrSyntax
	}
	var n int64
	for i := range digits {
		if !isDigit(b[i]) {
			return 0, api.ErrSyntax
		}
		n = n*8 + int64(b[i]-'0')
	}
	return n, api.OK
}

func validWidth(width int) bool { return minWidth <= width && width <= maxWidth }

func isDigit(c byte) bool { return '0' <= c && c <= '7' }
