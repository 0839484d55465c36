package cstring_test

import (
	"bytes"
	"math"
	"strings"
	"testing"

	"paxtar/api"
	"paxtar/cstring"
)

// invalidWidths includes numbers that look valid when they are cut to 8, 9 or 32 bits, or negated.
var invalidWidths = []int{math.MinInt, math.MinInt + 4, -1 << 32, -512 + 4, -257, -256, -100, -4, -1, 0, 257, 258, 256 + 100, 512, 512 + 4, 1<<16 + 4, 1<<32 + 4, math.MaxInt}

// texts are strings without a NUL byte, of at most 8 bytes: the shortest ones, high bytes, bytes that are no UTF-8, and NUL look-alikes.
var texts = []string{"", "a", "ab", "abcd", " ", "  a ", "\n", "\x01", "\x7f", "\x80", "\xff", "\xff\xfe\n", "0", "\\0", "\\x00", "a/b", "\xc0\x80", "\u00e9", "\u2400", "\U0001f600", "\xe2\x90"}

// field builds the field of a string without the package under test.
func field(s string, width int) []byte {
	return []byte(s + strings.Repeat("\x00", width-len(s)))
}

// checkFormat also checks what Fits returns for the same arguments.
func checkFormat(t *testing.T, s string, width int, want []byte, wantErr api.Errno) {
	t.Helper()
	b, err := cstring.Format(s, width)
	if !bytes.Equal(b, want) || err != wantErr {
		t.Errorf("Format(%q, %d) = %q, %v; want %q, %v", s, width, b, err, want, wantErr)
	}
	if fits := cstring.Fits(s, width); fits != (wantErr == api.OK) {
		t.Errorf("Fits(%q, %d) = %v; Format should return %v", s, width, fits, wantErr)
	}
}

func checkParse(t *testing.T, b []byte, want string, wantErr api.Errno) {
	t.Helper()
	before := bytes.Clone(b)
	s, err := cstring.Parse(b)
	if s != want || err != wantErr {
		t.Errorf("Parse(%q) = %q, %v; want %q, %v", before, s, err, want, wantErr)
	}
	if !bytes.Equal(b, before) {
		t.Errorf("Parse(%q) changed its argument to %q", before, b)
	}
}

// P2.1
func TestFormatExamples(t *testing.T) {
	checkFormat(t, "ab", 4, []byte{97, 98, 0, 0}, api.OK)
	checkFormat(t, "", 1, []byte{0}, api.OK)
	checkFormat(t, "a", 1, []byte("a"), api.OK)
	checkFormat(t, "", 4, []byte{0, 0, 0, 0}, api.OK)
	checkFormat(t, "ustar", 6, []byte("ustar\x00"), api.OK)
	checkFormat(t, "abcd", 4, []byte("abcd"), api.OK)
	checkFormat(t, "abcde", 4, nil, api.ErrTooLong)
	checkFormat(t, "ab", 1, nil, api.ErrTooLong)
	checkFormat(t, "", 256, make([]byte, 256), api.OK)
	checkFormat(t, "root", 32, []byte("root"+strings.Repeat("\x00", 28)), api.OK)
}

// P2.1: at every width, the strings of every length around it.
func TestFormatOfEveryWidth(t *testing.T) {
	for width := 1; width <= 256; width++ {
		for _, length := range []int{0, 1, width / 2, width - 1, width} {
			s := strings.Repeat("x", length)
			checkFormat(t, s, width, field(s, width), api.OK)
		}
		for _, length := range []int{width + 1, width + 2, 2*width + 1, width + 256, width + 512} {
			checkFormat(t, strings.Repeat("x", length), width, nil, api.ErrTooLong)
		}
		for _, s := range texts {
			if len(s) <= width {
				checkFormat(t, s, width, field(s, width), api.OK)
			} else {
				checkFormat(t, s, width, nil, api.ErrTooLong)
			}
		}
	}
}

// P2.1: every byte but NUL is permitted in a string, at its start, inside and at its end.
func TestFormatOfEveryByte(t *testing.T) {
	for c := range 256 {
		x := string([]byte{byte(c)})
		for _, s := range []string{x, x + "a", "a" + x, "a" + x + "b", x + x} {
			if c == 0 {
				checkFormat(t, s, 5, nil, api.ErrSyntax)
			} else {
				checkFormat(t, s, 5, field(s, 5), api.OK)
			}
		}
	}
}

// P2.1: a NUL byte is reported wherever it stands, also beyond the width and where the string is too long.
func TestFormatOfStringsWithNUL(t *testing.T) {
	for _, width := range []int{1, 2, 4, 100, 255, 256} {
		for _, length := range []int{1, 2, 4, 5, 100, 101, 255, 256, 257, 600} {
			for _, i := range []int{0, length / 2, length - 1} {
				b := bytes.Repeat([]byte("x"), length)
				b[i] = 0
				checkFormat(t, string(b), width, nil, api.ErrSyntax)
			}
			checkFormat(t, strings.Repeat("\x00", length), width, nil, api.ErrSyntax)
		}
	}
}

// P2.1: an invalid width is reported also where the string has a NUL byte or would not fit.
func TestFormatOfInvalidWidths(t *testing.T) {
	for _, width := range invalidWidths {
		for _, s := range []string{"", "a", "ab", "\x00", "a\x00", "\x00a", strings.Repeat("x", 256), strings.Repeat("x", 257), strings.Repeat("x", 600) + "\x00"} {
			checkFormat(t, s, width, nil, api.ErrArg)
		}
	}
}

// Rule 4: a result shares no memory with the result of another call.
func TestFormatReturnsNewMemory(t *testing.T) {
	a, _ := cstring.Format("ab", 4)
	cstring.Format("xyz", 4)
	b, _ := cstring.Format("ab", 4)
	for i := range a {
		a[i] = 'x'
	}
	if string(b) != "ab\x00\x00" {
		t.Errorf("the second result became %q", b)
	}
	checkFormat(t, "ab", 4, []byte("ab\x00\x00"), api.OK)
}

// P2.2
func TestParseExamples(t *testing.T) {
	checkParse(t, []byte{97, 98, 0, 0}, "ab", api.OK)
	checkParse(t, []byte("a\x00\x00"), "a", api.OK)
	checkParse(t, []byte("abc"), "abc", api.OK)
	checkParse(t, []byte("a"), "a", api.OK)
	checkParse(t, []byte("\x00"), "", api.OK)
	checkParse(t, make([]byte, 256), "", api.OK)
	checkParse(t, []byte("a \x00"), "a ", api.OK)
	checkParse(t, []byte("\xff\n\x00"), "\xff\n", api.OK)
	checkParse(t, []byte("\xc0\x80\x00"), "\xc0\x80", api.OK)
	checkParse(t, []byte("a\x00b"), "", api.ErrSyntax)
	checkParse(t, []byte("\x00a"), "", api.ErrSyntax)
	checkParse(t, []byte("a\x00\x00b"), "", api.ErrSyntax)
	checkParse(t, []byte("a\x00b\x00"), "", api.ErrSyntax)
	checkParse(t, []byte("\x00\x00\x01\x00\x00"), "", api.ErrSyntax)
}

// P2.2: at every width, the fields of every length of a string.
func TestParseOfEveryWidth(t *testing.T) {
	for width := 1; width <= 256; width++ {
		for length := range width + 1 {
			s := strings.Repeat("x", length)
			checkParse(t, field(s, width), s, api.OK)
		}
	}
}

// P2.2: a wrong length is reported whatever the bytes are.
func TestParseOfWrongLengths(t *testing.T) {
	checkParse(t, nil, "", api.ErrArg)
	checkParse(t, []byte{}, "", api.ErrArg)
	for _, length := range []int{257, 258, 300, api.Block, 512 + 4, 1<<16 + 4} {
		for _, c := range []byte{0, ' ', 'a', 255} {
			b := bytes.Repeat([]byte{c}, length)
			checkParse(t, b, "", api.ErrArg)
			b[0] = 0
			checkParse(t, b, "", api.ErrArg)
			b[0], b[length-1] = c, 'a'
			checkParse(t, b, "", api.ErrArg)
		}
	}
}

// P2.2: a byte in the padding, at every place after the first NUL byte.
func TestParseOfBytesInThePadding(t *testing.T) {
	for _, width := range []int{2, 3, 8, 32, 100, 155, 255, 256} {
		for _, length := range []int{0, 1, width / 2, width - 2} {
			for i := length + 1; i < width; i++ {
				for _, c := range []byte{1, ' ', '0', 'x', 0x80, 0xff} {
					b := field(strings.Repeat("x", length), width)
					b[i] = c
					checkParse(t, b, "", api.ErrSyntax)
				}
			}
		}
	}
}

// P2.2: each byte value as a part of the string and in the padding.
func TestParseOfEveryByte(t *testing.T) {
	for c := 1; c < 256; c++ {
		x := string([]byte{byte(c)})
		checkParse(t, []byte(x), x, api.OK)
		checkParse(t, []byte("a"+x), "a"+x, api.OK)
		checkParse(t, []byte(x+"a\x00"), x+"a", api.OK)
		checkParse(t, []byte("a"+x+"\x00\x00"), "a"+x, api.OK)
		checkParse(t, []byte("\x00"+x), "", api.ErrSyntax)
		checkParse(t, []byte("a\x00"+x), "", api.ErrSyntax)
		checkParse(t, []byte("a\x00"+x+"\x00"), "", api.ErrSyntax)
	}
}

// Rule 4: only the bytes up to the length of a slice count.
func TestParseReadsNoFurtherThanTheLength(t *testing.T) {
	b := []byte("ab\x00\x00cd")
	checkParse(t, b[:2], "ab", api.OK)
	checkParse(t, b[:4], "ab", api.OK)
	checkParse(t, b[:1], "a", api.OK)
	checkParse(t, b[2:4], "", api.OK)
	checkParse(t, b[:5], "", api.ErrSyntax)
	checkParse(t, b[:0], "", api.ErrArg)
	checkParse(t, bytes.Repeat([]byte("x"), 300)[:256], strings.Repeat("x", 256), api.OK)
}

// Rule 4: the string stays the same when its field is modified afterwards.
func TestParseKeepsNoMemory(t *testing.T) {
	for _, field := range []string{"ab\x00\x00", "abcd"} {
		b := []byte(field)
		s, _ := cstring.Parse(b)
		want := strings.Clone(s)
		for i := range b {
			b[i] = 'x'
		}
		if s != want {
			t.Errorf("the result of Parse(%q) became %q", field, s)
		}
	}
}

// P2.3, first half.
func TestParseInvertsFormat(t *testing.T) {
	for width := 1; width <= 256; width++ {
		l := append([]string{strings.Repeat("y", width), strings.Repeat("\xff", width-1)}, texts...)
		for _, s := range l {
			if len(s) > width {
				continue
			}
			b, err := cstring.Format(s, width)
			if err != api.OK || len(b) != width {
				t.Fatalf("Format(%q, %d) = %q, %v", s, width, b, err)
			}
			checkParse(t, b, s, api.OK)
		}
	}
}

// P2.3, second half: all fields of up to 6 bytes of an alphabet. Of length w, those are accepted whose string has any length from 0 to w, of 4 bytes other than NUL: 4^0 + .. + 4^w.
func TestAcceptedFieldsAreCanonical(t *testing.T) {
	const alphabet = "\x00\x01 a\xff"
	accepted := make([]int, 7)
	var visit func(b []byte)
	visit = func(b []byte) {
		if s, err := cstring.Parse(b); err == api.OK {
			accepted[len(b)]++
			checkFormat(t, s, len(b), b, api.OK)
		}
		if len(b) == 6 {
			return
		}
		for i := range len(alphabet) {
			visit(append(bytes.Clone(b), alphabet[i]))
		}
	}
	visit(nil)
	for length, want := range []int{0, 5, 21, 85, 341, 1365, 5461} {
		if accepted[length] != want {
			t.Errorf("%d fields of %d bytes are accepted; want %d", accepted[length], length, want)
		}
	}
}

// P1: no call panics, whatever its arguments.
func TestNoPanic(t *testing.T) {
	widths := append([]int{1, 2, 100, 155, 255, 256}, invalidWidths...)
	for _, width := range widths {
		for _, s := range append([]string{"\x00", "a\x00b", strings.Repeat("x", 1<<17)}, texts...) {
			cstring.Format(s, width)
			cstring.Fits(s, width)
		}
	}
	for length := range 600 {
		for _, c := range []byte{0, 'a', 255} {
			cstring.Parse(bytes.Repeat([]byte{c}, length))
		}
	}
}
