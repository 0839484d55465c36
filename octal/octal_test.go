package octal_test

import (
	"bytes"
	"math"
	"math/big"
	"strconv"
	"strings"
	"testing"

	"paxtar/api"
	"paxtar/octal"
)

// invalidWidths includes numbers that look valid when they are cut to 8 or 32 bits, or negated.
var invalidWidths = []int{math.MinInt, math.MinInt + 8, -256 + 8, -22, -8, -2, -1, 0, 1, 23, 24, 66, 256 + 8, 1<<32 + 8, math.MaxInt}

// greatest computes 8^(width-1) - 1 without the package under test.
func greatest(width int) int64 {
	n := new(big.Int).Exp(big.NewInt(8), big.NewInt(int64(width-1)), nil)
	return n.Sub(n, big.NewInt(1)).Int64()
}

// field builds the field of a number without the package under test.
func field(n int64, width int) []byte {
	digits := strconv.FormatInt(n, 8)
	return []byte(strings.Repeat("0", width-1-len(digits)) + digits + "\x00")
}

// numbers returns numbers that fit the width: the least, the greatest, and those around each power of two.
func numbers(width int) []int64 {
	limit := greatest(width)
	l := []int64{0, limit, limit - 1, limit / 3, limit / 5, limit / 7}
	for p := int64(1); p > 0 && p <= limit; p *= 2 {
		l = append(l, p-1, p)
		if p < limit {
			l = append(l, p+1)
		}
	}
	return l
}

func checkFormat(t *testing.T, n int64, width int, want []byte, wantErr api.Errno) {
	t.Helper()
	b, err := octal.Format(n, width)
	if !bytes.Equal(b, want) || err != wantErr {
		t.Errorf("Format(%d, %d) = %q, %v; want %q, %v", n, width, b, err, want, wantErr)
	}
}

func checkParse(t *testing.T, b []byte, want int64, wantErr api.Errno) {
	t.Helper()
	before := bytes.Clone(b)
	n, err := octal.Parse(b)
	if n != want || err != wantErr {
		t.Errorf("Parse(%q) = %d, %v; want %d, %v", before, n, err, want, wantErr)
	}
	if !bytes.Equal(b, before) {
		t.Errorf("Parse(%q) changed its argument to %q", before, b)
	}
}

// P1.1
func TestMaxOfValidWidths(t *testing.T) {
	for width := 2; width <= 22; width++ {
		if n := octal.Max(width); n != greatest(width) {
			t.Errorf("Max(%d) = %d; want %d", width, n, greatest(width))
		}
	}
	for width, want := range map[int]int64{2: 7, 3: 63, 8: 2097151, 12: api.MaxOctal, 21: 1<<60 - 1, 22: math.MaxInt64} {
		if n := octal.Max(width); n != want {
			t.Errorf("Max(%d) = %d; want %d", width, n, want)
		}
	}
}

// P1.1
func TestMaxOfInvalidWidths(t *testing.T) {
	for _, width := range invalidWidths {
		if n := octal.Max(width); n != 0 {
			t.Errorf("Max(%d) = %d; want 0", width, n)
		}
	}
}

// P1.2
func TestFormatExamples(t *testing.T) {
	checkFormat(t, 420, 8, []byte("0000644\x00"), api.OK)
	checkFormat(t, 0, 2, []byte("0\x00"), api.OK)
	checkFormat(t, 7, 2, []byte("7\x00"), api.OK)
	checkFormat(t, 8, 3, []byte("10\x00"), api.OK)
	checkFormat(t, 0, 8, []byte("0000000\x00"), api.OK)
	checkFormat(t, 3, 12, []byte("00000000003\x00"), api.OK)
	checkFormat(t, 0o1234567, 8, []byte("1234567\x00"), api.OK)
	checkFormat(t, api.MaxOctal, 12, []byte("77777777777\x00"), api.OK)
	checkFormat(t, 0, 22, []byte("000000000000000000000\x00"), api.OK)
	checkFormat(t, math.MaxInt64, 22, []byte("777777777777777777777\x00"), api.OK)
}

// P1.2
func TestFormatOfEveryWidth(t *testing.T) {
	for width := 2; width <= 22; width++ {
		for _, n := range numbers(width) {
			checkFormat(t, n, width, field(n, width), api.OK)
		}
	}
}

// P1.2
func TestFormatOutOfRange(t *testing.T) {
	for width := 2; width <= 22; width++ {
		for _, n := range []int64{-1, -7, -8, -greatest(width), math.MinInt64 + 1, math.MinInt64} {
			checkFormat(t, n, width, nil, api.ErrRange)
		}
	}
	for width := 2; width <= 21; width++ {
		for _, n := range []int64{greatest(width) + 1, greatest(width) + 2, math.MaxInt64 - 1, math.MaxInt64} {
			checkFormat(t, n, width, nil, api.ErrRange)
		}
	}
}

// P1.2: an invalid width is reported also where the number is out of range.
func TestFormatOfInvalidWidths(t *testing.T) {
	for _, width := range invalidWidths {
		for _, n := range []int64{math.MinInt64, -1, 0, 1, 7, 420, math.MaxInt64} {
			checkFormat(t, n, width, nil, api.ErrArg)
		}
	}
}

// Rule 4: a result shares no memory with the result of another call.
func TestFormatReturnsNewMemory(t *testing.T) {
	a, _ := octal.Format(420, 8)
	octal.Format(7, 8)
	b, _ := octal.Format(420, 8)
	for i := range a {
		a[i] = 'x'
	}
	if string(b) != "0000644\x00" {
		t.Errorf("the second result became %q", b)
	}
	checkFormat(t, 420, 8, []byte("0000644\x00"), api.OK)
}

// P1.3
func TestParseExamples(t *testing.T) {
	checkParse(t, []byte("0000644\x00"), 420, api.OK)
	checkParse(t, []byte("0\x00"), 0, api.OK)
	checkParse(t, []byte("7\x00"), 7, api.OK)
	checkParse(t, []byte("10\x00"), 8, api.OK)
	checkParse(t, []byte("1234567\x00"), 0o1234567, api.OK)
	checkParse(t, []byte("77777777777\x00"), api.MaxOctal, api.OK)
	checkParse(t, []byte("000000000000000000000\x00"), 0, api.OK)
	checkParse(t, []byte("400000000000000000000\x00"), 1<<62, api.OK)
	checkParse(t, []byte("777777777777777777777\x00"), math.MaxInt64, api.OK)
}

// P1.3: a wrong length is reported whatever the bytes are.
func TestParseOfWrongLengths(t *testing.T) {
	checkParse(t, nil, 0, api.ErrArg)
	for _, length := range []int{0, 1, 23, 24, 64, 256 + 8, api.Block} {
		for _, c := range []byte{0, ' ', '0', '7', '8', 255} {
			b := bytes.Repeat([]byte{c}, length)
			checkParse(t, b, 0, api.ErrArg)
			if length > 0 {
				b[length-1] = 0
				checkParse(t, b, 0, api.ErrArg)
			}
		}
	}
}

// P1.3
func TestParseOfEveryLastByte(t *testing.T) {
	for width := 2; width <= 22; width++ {
		for c := 1; c < 256; c++ {
			b := field(5, width)
			b[width-1] = byte(c)
			checkParse(t, b, 0, api.ErrSyntax)
		}
	}
}

// P1.3: each byte value at each place of a digit, over a field of zeros, where the expected number is the digit's own value.
func TestParseOfEveryDigit(t *testing.T) {
	for width := 2; width <= 22; width++ {
		for i := range width - 1 {
			for c := range 256 {
				b := field(0, width)
				b[i] = byte(c)
				if '0' <= c && c <= '7' {
					checkParse(t, b, int64(c-'0')<<(3*(width-2-i)), api.OK)
				} else {
					checkParse(t, b, 0, api.ErrSyntax)
				}
			}
		}
	}
}

// P1.3
func TestParseOfOtherNotations(t *testing.T) {
	for _, s := range []string{"\x00\x00", "00", "8\x00", "/0\x00", "0:\x00", " 1\x00", "1 \x00", "1\x00\x00", "+1\x00", "-1\x00", "0o7\x00", "1_0\x00", "   644 \x00", "0000644 ", "644\x00\x00\x00\x00\x00", "\x80\x00\x00\x00\x00\x00\x01\xa4", "\xb0\x00", "\xef\xbc\x96\x00"} {
		checkParse(t, []byte(s), 0, api.ErrSyntax)
	}
}

// Rule 4: only the bytes up to the length of a slice count.
func TestParseReadsNoFurtherThanTheLength(t *testing.T) {
	b := []byte("0000644\x009999")
	checkParse(t, b[:8], 420, api.OK)
	checkParse(t, b[3:8], 420, api.OK)
	checkParse(t, b[:7], 0, api.ErrSyntax)
	checkParse(t, b[7:8], 0, api.ErrArg)
	checkParse(t, b[8:8], 0, api.ErrArg)
}

// P1.4, first half: all numbers of the widths 2 to 6, and chosen ones of the others.
func TestParseInvertsFormat(t *testing.T) {
	for width := 2; width <= 22; width++ {
		l := numbers(width)
		if width <= 6 {
			for n := range greatest(width) + 1 {
				l = append(l, n)
			}
		}
		for _, n := range l {
			b, err := octal.Format(n, width)
			if err != api.OK || len(b) != width {
				t.Fatalf("Format(%d, %d) = %q, %v", n, width, b, err)
			}
			checkParse(t, b, n, api.OK)
		}
	}
}

// P1.4, second half: all strings of up to 5 bytes of an alphabet that has each digit's neighbours, spaces, NUL bytes and high bytes.
func TestAcceptedFieldsAreCanonical(t *testing.T) {
	const alphabet = "\x00\x01 /01789\xb0\xff"
	accepted := make([]int, 6)
	var visit func(b []byte)
	visit = func(b []byte) {
		if n, err := octal.Parse(b); err == api.OK {
			accepted[len(b)]++
			checkFormat(t, n, len(b), b, api.OK)
		}
		if len(b) == 5 {
			return
		}
		for i := range len(alphabet) {
			visit(append(bytes.Clone(b), alphabet[i]))
		}
	}
	visit(nil)
	for length, want := range []int{0, 0, 3, 9, 27, 81} {
		if accepted[length] != want {
			t.Errorf("%d fields of %d bytes are accepted; want %d", accepted[length], length, want)
		}
	}
}

// P1: no call panics, whatever its arguments.
func TestNoPanic(t *testing.T) {
	widths := append([]int{2, 3, 8, 12, 21, 22}, invalidWidths...)
	for _, width := range widths {
		octal.Max(width)
		for _, n := range []int64{math.MinInt64, -1, 0, 1, math.MaxInt64} {
			octal.Format(n, width)
		}
	}
	for length := range 600 {
		for _, c := range []byte{0, '0', '7', '8', 255} {
			octal.Parse(bytes.Repeat([]byte{c}, length))
		}
	}
}
