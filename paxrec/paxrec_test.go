package paxrec_test

import (
	"bytes"
	"math/big"
	"math/rand"
	"regexp"
	"slices"
	"strconv"
	"strings"
	"testing"

	"paxtar/api"
	"paxtar/paxrec"
)

// The forms of the chapter as regular expressions. Bytes that are no UTF-8 match like characters.
var (
	isNumber = regexp.MustCompile(`^(0|[1-9][0-9]*)$`)
	hasStart = regexp.MustCompile(`^([1-9][0-9]{0,5}) `)
	isRecord = regexp.MustCompile(`^[0-9]+ ([^=]*)=((?s:.*))\n$`)
)

var permitted = []string{"linkpath", "path", "size"}

// unknown are keys that are not permitted, many of them similar to one that is.
var unknown = []string{"", " ", "\x00", "\n", "=", "a", "p", "pat", "paths", "path ", " path", "path\x00", "path=", "path\n", "Path", "PATH", "pa\x00th", "path/", "p\u0430th", "path\xff", "link", "linkpat", "linkpaths", "linkname", "Linkpath", "linkpath\x00", "siz", "sizes", "Size", "size ", "size\x00", "mtime", "atime", "uid", "gid", "uname", "gname", "charset", "comment", "hdrcharset", "GNU.sparse.size", "SCHILY.dev", "pathsize", "linkpathpathsize", "0"}

// badText are values that no text may have; they are not too long.
var badText = []string{"", "\x00", "a\x00", "\x00a", "a\x00b", "\x00\x00", "a/b\x00", x(65535) + "\x00", "\x00" + x(65535), strings.Repeat("\x00", 65536)}

// goodText are values that a text may have; they need not be paths.
var goodText = []string{"a", "a/b", "/", "/a", "a/", "a//b", ".", "..", "../a", " ", "\n", "=", "==", "a=b", "x\ny=", "9 path=a\n", "\x01", "\xff", "\xc0\x80", "\u00e9\U0001f600", "0", "01", "-1", "1099511627777", x(100), x(101), x(65535), x(65536), strings.Repeat("\u00e9", 32768), strings.Repeat("=", 65536), strings.Repeat("\n", 65536)}

// noNumbers are values that are no decimal numbers without leading zeros.
var noNumbers = []string{"", "00", "01", "007", "00000000000000000000000", "01099511627776", "0" + strings.Repeat("9", 100), "-0", "+0", "-1", "+1", " ", " 1", "1 ", "1\n", "\n", "1\x00", "\x00", "\x001", "1.0", "1.", ".1", "1e3", "0x1", "0b1", "0o7", "1_000", "1,000", "a", "f", "1a", "a1", "/", ":", "1/", "1:", "\xb0", "\xff1", "1\xff", "\u0661", "\uff11", "1\uff11", "\u00b2", "\xc0\xb1", "NaN", "Inf", strings.Repeat("9", 100) + "x", "x" + strings.Repeat("9", 100), strings.Repeat("1", 70000) + " ", "1099511627777 "}

// bigNumbers are greater than MaxSize; some of them are not when they are cut to 64 or 32 bits.
var bigNumbers = []string{"1099511627777", "1099511627778", "1099511627780", "1099511627786", "1099511627866", "1199511627776", "2000000000000", "9999999999999", "10995116277760", "9223372036854775807", "9223372036854775808", "9999999999999999999", "10000000000000000000", "18446744073709551615", "18446744073709551616", "18446744073709551617", "18446745173221179392", "36893488147419103232", "340282366920938463463374607431768211456", "340282366920938463463374607431768211457", "1" + strings.Repeat("0", 100), strings.Repeat("9", 1000), "1" + strings.Repeat("0", 70000), strings.Repeat("7", 1<<20)}

// x returns a string of n bytes.
func x(n int) string { return strings.Repeat("x", n) }

func record(key, value string) api.Record { return api.Record{Key: key, Value: value} }

// encode finds the encoding of a record by trying one length after the other.
func encode(r api.Record) string {
	s := " " + r.Key + "=" + r.Value + "\n"
	n := len(s)
	for len(strconv.Itoa(n))+len(s) != n {
		n++
	}
	return strconv.Itoa(n) + s
}

func encodeAll(l []api.Record) string {
	s := ""
	for _, r := range l {
		s += encode(r)
	}
	return s
}

// check is Check, by the forms above.
func check(r api.Record) api.Errno {
	switch {
	case !slices.Contains(permitted, r.Key):
		return api.ErrRecord
	case r.Key != "size" && len(r.Value) > 65536:
		return api.ErrTooLong
	case r.Key != "size" && (r.Value == "" || strings.Contains(r.Value, "\x00")):
		return api.ErrSyntax
	case r.Key != "size":
		return api.OK
	case !isNumber.MatchString(r.Value):
		return api.ErrSyntax
	}
	n, _ := new(big.Int).SetString(r.Value, 10)
	if n.Cmp(big.NewInt(1099511627776)) > 0 {
		return api.ErrRange
	}
	return api.OK
}

// checkAll returns the index and the error of the first record that may not be in a list.
func checkAll(l []api.Record) (int, api.Errno) {
	for i, r := range l {
		if err := check(r); err != api.OK {
			return i, err
		}
		if i > 0 && r.Key <= l[i-1].Key {
			return i, api.ErrOrder
		}
	}
	return len(l), api.OK
}

// parse is Parse, by the forms above.
func parse(s string) ([]api.Record, int, api.Errno) {
	if len(s) > 262144 {
		return nil, 0, api.ErrTooLong
	}
	var l []api.Record
	offset := 0
	for offset < len(s) {
		rest := s[offset:]
		start := hasStart.FindStringSubmatch(rest)
		if start == nil {
			return nil, offset, api.ErrSyntax
		}
		n, _ := strconv.Atoi(start[1])
		if n > len(rest) {
			return nil, offset, api.ErrTruncated
		}
		parts := isRecord.FindStringSubmatch(rest[:n])
		if parts == nil || encode(record(parts[1], parts[2])) != rest[:n] {
			return nil, offset, api.ErrSyntax
		}
		l = append(l, record(parts[1], parts[2]))
		if _, err := checkAll(l); err != api.OK {
			return nil, offset, err
		}
		offset += n
	}
	return l, offset, api.OK
}

// each calls f with all strings of up to n bytes of an alphabet.
func each(alphabet string, n int, f func(s string)) {
	var visit func(s string)
	visit = func(s string) {
		f(s)
		if len(s) == n {
			return
		}
		for i := range len(alphabet) {
			visit(s + alphabet[i:i+1])
		}
	}
	visit("")
}

// eachList calls f with all lists of up to n of the records.
func eachList(records []api.Record, n int, f func(l []api.Record)) {
	var visit func(l []api.Record)
	visit = func(l []api.Record) {
		f(l)
		if len(l) == n {
			return
		}
		for _, r := range records {
			visit(append(slices.Clone(l), r))
		}
	}
	visit(nil)
}

// validLists returns lists of all sets of keys, with short and long values.
func validLists() [][]api.Record {
	var l [][]api.Record
	for _, link := range []string{"", "a", "x\ny=", "= ", x(83), x(86), x(87), x(985), x(65536)} {
		for _, path := range []string{"", "b", "9 path=a\n", x(90), x(91), x(989), x(990), x(65536)} {
			for _, size := range []string{"", "0", "8589934592", "1099511627776"} {
				list := []api.Record{record("linkpath", link), record("path", path), record("size", size)}
				l = append(l, slices.DeleteFunc(list, func(r api.Record) bool { return r.Value == "" }))
			}
		}
	}
	return l
}

func checkCheck(t *testing.T, key, value string, want api.Errno) {
	t.Helper()
	if err := paxrec.Check(record(key, value)); err != want {
		t.Errorf("Check(%q, %.50q of %d bytes) = %v; want %v", key, value, len(value), err, want)
	}
}

func checkSize(t *testing.T, key, value string, want int) {
	t.Helper()
	if n := paxrec.Size(record(key, value)); n != want {
		t.Errorf("Size(%.50q, %.50q), of %d and %d bytes, = %d; want %d", key, value, len(key), len(value), n, want)
	}
}

func checkFormat(t *testing.T, l []api.Record, want string, wantErr api.Errno) {
	t.Helper()
	before := slices.Clone(l)
	b, err := paxrec.Format(l...)
	if string(b) != want || err != wantErr {
		t.Errorf("Format(%.200q) = %.50q of %d bytes, %v; want %.50q of %d bytes, %v", l, b, len(b), err, want, len(want), wantErr)
	}
	if !slices.Equal(l, before) {
		t.Errorf("Format changed its argument %.200q to %.200q", before, l)
	}
}

func checkParse(t *testing.T, s string, want []api.Record, wantOffset int, wantErr api.Errno) {
	t.Helper()
	b := []byte(s)
	l, offset, err := paxrec.Parse(b)
	if !slices.Equal(l, want) || offset != wantOffset || err != wantErr {
		t.Errorf("Parse(%.100q of %d bytes) = %.200q, %d, %v; want %.200q, %d, %v", s, len(s), l, offset, err, want, wantOffset, wantErr)
	}
	if string(b) != s {
		t.Errorf("Parse(%.100q) changed its argument to %.100q", s, b)
	}
}

// checkInvalid is for byte strings that Parse rejects.
func checkInvalid(t *testing.T, s string, wantOffset int, wantErr api.Errno) {
	t.Helper()
	checkParse(t, s, nil, wantOffset, wantErr)
}

// compareParse compares with the reference, and reports whether the string is accepted.
func compareParse(t *testing.T, s string) bool {
	t.Helper()
	l, offset, err := parse(s)
	checkParse(t, s, l, offset, err)
	return err == api.OK
}

// The chapter's examples.
func TestExamples(t *testing.T) {
	checkFormat(t, []api.Record{record("path", "a")}, "9 path=a\n", api.OK)
	checkInvalid(t, "10 path=a\n", 0, api.ErrSyntax)
	checkSize(t, "size", "8589934592", 19)
	checkFormat(t, []api.Record{record("size", "8589934592")}, "19 size=8589934592\n", api.OK)
}

// P9.1
func TestKeys(t *testing.T) {
	if l := paxrec.Keys(); !slices.Equal(l, permitted) {
		t.Errorf("Keys() = %q; want %q", l, permitted)
	}
}

// Rule 4: a result shares no memory with the program or with the result of another call.
func TestKeysReturnsNewMemory(t *testing.T) {
	first, second := paxrec.Keys(), paxrec.Keys()
	for i := range first {
		first[i] = "mtime"
	}
	_ = append(first[:1], "uid", "gid", "uname")
	if !slices.Equal(second, permitted) || !slices.Equal(paxrec.Keys(), permitted) {
		t.Errorf("the keys became %q and %q", second, paxrec.Keys())
	}
	checkCheck(t, "mtime", "1", api.ErrRecord)
	checkCheck(t, "path", "a", api.OK)
	checkInvalid(t, "11 mtime=1\n", 0, api.ErrRecord)
}

// P9.1: a key that is not permitted precedes all errors of the value.
func TestCheckOfUnknownKeys(t *testing.T) {
	for _, key := range unknown {
		for _, value := range []string{"a", "1", "", "\x00", "01", "1099511627777", x(65537), strings.Repeat("\x00", 65537)} {
			checkCheck(t, key, value, api.ErrRecord)
		}
	}
	for c := range 256 {
		b := string([]byte{byte(c)})
		for _, key := range permitted {
			for _, other := range []string{b, b + key, key + b, key[1:] + b, b + key[1:]} {
				if !slices.Contains(permitted, other) {
					checkCheck(t, other, "1", api.ErrRecord)
				}
			}
		}
	}
}

// P9.1
func TestCheckOfTexts(t *testing.T) {
	for _, key := range []string{"linkpath", "path"} {
		for _, value := range goodText {
			checkCheck(t, key, value, api.OK)
		}
		for _, value := range badText {
			checkCheck(t, key, value, api.ErrSyntax)
		}
		for c := range 256 {
			b := string([]byte{byte(c)})
			for _, value := range []string{b, b + "a", "a" + b, "a" + b + "a", x(65535) + b, b + x(65535)} {
				want := api.OK
				if c == 0 {
					want = api.ErrSyntax
				}
				checkCheck(t, key, value, want)
			}
		}
	}
}

// P9.1: a length of more than 65536 bytes precedes a NUL byte.
func TestCheckOfLongTexts(t *testing.T) {
	for _, key := range []string{"linkpath", "path"} {
		for _, n := range []int{65537, 65538, 1 << 17, 1<<17 + 1, 262144, 1 << 20} {
			for _, value := range []string{x(n), "\x00" + x(n-1), x(n-1) + "\x00", strings.Repeat("\x00", n), strings.Repeat("1", n), strings.Repeat("\u00e9", n/2+1)} {
				checkCheck(t, key, value, api.ErrTooLong)
			}
		}
		checkCheck(t, key, strings.Repeat("\u00e9", 32769), api.ErrTooLong)
	}
}

// P9.1
func TestCheckOfNumbers(t *testing.T) {
	for _, value := range []string{"0", "1", "9", "10", "11", "99", "100", "4095", "8589934591", "8589934592", "1099511627770", "1099511627775", "1099511627776", "999999999999", "1000000000000", "1099499999999"} {
		checkCheck(t, "size", value, api.OK)
	}
	for _, value := range noNumbers {
		checkCheck(t, "size", value, api.ErrSyntax)
	}
	for _, value := range bigNumbers {
		checkCheck(t, "size", value, api.ErrRange)
	}
	for n := range int64(2000) {
		checkCheck(t, "size", strconv.FormatInt(n, 10), api.OK)
		checkCheck(t, "size", strconv.FormatInt(api.MaxSize-n, 10), api.OK)
		checkCheck(t, "size", strconv.FormatInt(api.MaxSize+1+n, 10), api.ErrRange)
	}
}

// P9.1: a value with a wrong byte is no number, however great it would be, and a size has no limit of bytes.
func TestCheckOfEveryByteInANumber(t *testing.T) {
	for c := range 256 {
		b := string([]byte{byte(c)})
		digit := '0' <= c && c <= '9'
		for _, value := range []string{b, "1" + b, b + "1", "1" + b + "1", "10995116277" + b, b + "109951162777", "99999999999999999999" + b, "9" + b + "99999999999999999999", strings.Repeat("9", 70000) + b} {
			switch {
			case !digit || c == '0' && value[0] == '0' && len(value) > 1:
				checkCheck(t, "size", value, api.ErrSyntax)
			default:
				checkCheck(t, "size", value, check(record("size", value)))
			}
		}
	}
}

// P9.1: all short strings as values.
func TestCheckOfAllShortValues(t *testing.T) {
	valid := 0
	each("0189+- \x00\n/:\xb0", 4, func(value string) {
		for _, key := range permitted {
			want := check(record(key, value))
			checkCheck(t, key, value, want)
			if key == "size" && want == api.OK {
				valid++
			}
		}
	})
	if want := 1 + 3 + 3*4 + 3*16 + 3*64; valid != want {
		t.Errorf("%d sizes are valid; want %d", valid, want)
	}
}

// P9.1: each power of ten and of two, and the numbers around them.
func TestCheckOfPowers(t *testing.T) {
	for _, base := range []int64{2, 10} {
		p := big.NewInt(1)
		for range 150 {
			for _, d := range []int64{-1, 0, 1} {
				value := new(big.Int).Add(p, big.NewInt(d)).String()
				checkCheck(t, "size", value, check(record("size", value)))
			}
			p.Mul(p, big.NewInt(base))
		}
	}
}

// P9.2: the lengths at which the number gets another digit: no record has a length of 10, 100, and so on.
func TestSizeAtTheBounds(t *testing.T) {
	greatest := 0
	for digits := 1; digits <= 7; digits++ {
		greatest = greatest*10 + 9
		n := greatest - digits - len(" =\n")
		for d, want := range map[int]int{-1: greatest - 1, 0: greatest, 1: greatest + 2, 2: greatest + 3} {
			checkSize(t, "", x(n+d), want)
			checkSize(t, x(n+d), "", want)
			checkSize(t, "a", x(n+d-1), want)
			checkSize(t, x((n+d)/2), x(n+d-(n+d)/2), want)
		}
	}
	checkSize(t, "", "", 4)
	checkSize(t, "path", "a", 9)
	checkSize(t, "path", x(91), 101)
}

// P9.2: all lengths up to a bound, and bytes that need not be permitted.
func TestSizeOfEveryLength(t *testing.T) {
	for n := range 3000 {
		for _, r := range []api.Record{record("path", x(n)), record("linkpath", x(n)), record("size", strings.Repeat("0", n)), record("", x(n)), record(x(n), ""), record(strings.Repeat("=", n), "\n"), record("\x00", strings.Repeat("\x00", n)), record("\u00e9", strings.Repeat("\u00e9", n))} {
			checkSize(t, r.Key, r.Value, len(encode(r)))
		}
	}
	for _, n := range []int{9990, 10000, 65536, 65537, 99990, 100000, 999990, 1000000} {
		for d := range 20 {
			checkSize(t, "path", x(n-d), len(encode(record("path", x(n-d)))))
		}
	}
}

// P9.3
func TestFormat(t *testing.T) {
	for _, c := range []struct {
		l    []api.Record
		want string
	}{
		{nil, ""},
		{[]api.Record{}, ""},
		{[]api.Record{record("linkpath", "a")}, "14 linkpath=a\n"},
		{[]api.Record{record("path", "ab")}, "11 path=ab\n"},
		{[]api.Record{record("size", "0")}, "9 size=0\n"},
		{[]api.Record{record("size", "1099511627776")}, "22 size=1099511627776\n"},
		{[]api.Record{record("linkpath", "b"), record("path", "a")}, "14 linkpath=b\n9 path=a\n"},
		{[]api.Record{record("linkpath", "b"), record("size", "1")}, "14 linkpath=b\n9 size=1\n"},
		{[]api.Record{record("path", "z"), record("size", "1")}, "9 path=z\n9 size=1\n"},
		{[]api.Record{record("linkpath", "c"), record("path", "b"), record("size", "10")}, "14 linkpath=c\n9 path=b\n11 size=10\n"},
		{[]api.Record{record("path", "=\n 9 path=a\n")}, "21 path==\n 9 path=a\n\n"},
		{[]api.Record{record("path", x(89))}, "98 path=" + x(89) + "\n"},
		{[]api.Record{record("path", x(90))}, "99 path=" + x(90) + "\n"},
		{[]api.Record{record("path", x(91))}, "101 path=" + x(91) + "\n"},
		{[]api.Record{record("linkpath", x(65536)), record("path", x(65536))}, "65552 linkpath=" + x(65536) + "\n65548 path=" + x(65536) + "\n"},
	} {
		checkFormat(t, c.l, c.want, api.OK)
	}
	for _, l := range validLists() {
		checkFormat(t, l, encodeAll(l), api.OK)
	}
}

// P9.3: the first record with an error counts, and in one record the error of Check precedes the order.
func TestFormatOfInvalidLists(t *testing.T) {
	for _, c := range []struct {
		l    []api.Record
		want api.Errno
	}{
		{[]api.Record{record("mtime", "1")}, api.ErrRecord},
		{[]api.Record{record("", "")}, api.ErrRecord},
		{[]api.Record{record("path", "")}, api.ErrSyntax},
		{[]api.Record{record("linkpath", "a\x00")}, api.ErrSyntax},
		{[]api.Record{record("path", strings.Repeat("\x00", 65537))}, api.ErrTooLong},
		{[]api.Record{record("size", "01")}, api.ErrSyntax},
		{[]api.Record{record("size", "1099511627777")}, api.ErrRange},
		{[]api.Record{record("path", "a"), record("path", "a")}, api.ErrOrder},
		{[]api.Record{record("path", "a"), record("path", "b")}, api.ErrOrder},
		{[]api.Record{record("path", "a"), record("linkpath", "b")}, api.ErrOrder},
		{[]api.Record{record("size", "1"), record("path", "b")}, api.ErrOrder},
		{[]api.Record{record("size", "1"), record("linkpath", "b")}, api.ErrOrder},
		{[]api.Record{record("linkpath", "a"), record("size", "1"), record("path", "b")}, api.ErrOrder},
		{[]api.Record{record("linkpath", "a"), record("path", "a"), record("size", "1"), record("size", "1")}, api.ErrOrder},
		{[]api.Record{record("size", "1"), record("path", "")}, api.ErrSyntax},
		{[]api.Record{record("size", "1"), record("path", x(65537))}, api.ErrTooLong},
		{[]api.Record{record("size", "1"), record("size", "1099511627777")}, api.ErrRange},
		{[]api.Record{record("size", "1"), record("mtime", "1")}, api.ErrRecord},
		{[]api.Record{record("size", "1"), record("path", "a"), record("mtime", "1")}, api.ErrOrder},
		{[]api.Record{record("path", "a"), record("size", "x"), record("path", "a")}, api.ErrSyntax},
		{[]api.Record{record("path", "a"), record("mtime", "1"), record("size", "x")}, api.ErrRecord},
		{[]api.Record{record("linkpath", "a"), record("path", "a"), record("size", "01")}, api.ErrSyntax},
	} {
		checkFormat(t, c.l, "", c.want)
	}
}

// P9.3: all lists of up to four records.
func TestFormatOfAllShortLists(t *testing.T) {
	records := []api.Record{record("linkpath", "a"), record("path", "b"), record("path", "a=\n"), record("size", "0"), record("size", "1099511627776"), record("linkpath", ""), record("path", "\x00"), record("path", strings.Repeat("\x00", 65537)), record("size", "00"), record("size", "1099511627777"), record("mtime", "1"), record("a", "1"), record("zzz", "")}
	valid := 0
	eachList(records, 4, func(l []api.Record) {
		_, err := checkAll(l)
		if err != api.OK {
			checkFormat(t, l, "", err)
			return
		}
		valid++
		checkFormat(t, l, encodeAll(l), api.OK)
	})
	if want := 2 * 3 * 3; valid != want {
		t.Errorf("%d lists are valid; want %d", valid, want)
	}
}

// Rule 4: a result shares no memory with the result of another call.
func TestFormatReturnsNewMemory(t *testing.T) {
	l := []api.Record{record("path", "a")}
	first, _ := paxrec.Format(l...)
	second, _ := paxrec.Format(l...)
	clear(first[:cap(first)])
	if string(second) != "9 path=a\n" {
		t.Errorf("the second result became %q", second)
	}
	checkFormat(t, l, "9 path=a\n", api.OK)
}

// P9.4
func TestParse(t *testing.T) {
	checkParse(t, "", nil, 0, api.OK)
	checkParse(t, "9 path=a\n", []api.Record{record("path", "a")}, 9, api.OK)
	checkParse(t, "14 linkpath=a\n", []api.Record{record("linkpath", "a")}, 14, api.OK)
	checkParse(t, "9 size=0\n", []api.Record{record("size", "0")}, 9, api.OK)
	checkParse(t, "22 size=1099511627776\n", []api.Record{record("size", "1099511627776")}, 22, api.OK)
	checkParse(t, "11 path=ab\n", []api.Record{record("path", "ab")}, 11, api.OK)
	checkParse(t, "11 path= \n\n", []api.Record{record("path", " \n")}, 11, api.OK)
	checkParse(t, "11 path===\n", []api.Record{record("path", "==")}, 11, api.OK)
	checkParse(t, "9 path=a\n9 size=1\n", []api.Record{record("path", "a"), record("size", "1")}, 18, api.OK)
	checkParse(t, "14 linkpath=c\n9 path=b\n11 size=10\n", []api.Record{record("linkpath", "c"), record("path", "b"), record("size", "10")}, 34, api.OK)
	checkParse(t, "21 path==\n 9 path=a\n\n", []api.Record{record("path", "=\n 9 path=a\n")}, 21, api.OK)
	checkParse(t, "99 path="+x(90)+"\n", []api.Record{record("path", x(90))}, 99, api.OK)
	checkParse(t, "101 path="+x(91)+"\n9 size=1\n", []api.Record{record("path", x(91)), record("size", "1")}, 110, api.OK)
}

// P9.4: the first check, the number and the space.
func TestParseOfWrongNumbers(t *testing.T) {
	for _, s := range []string{"", "0", "00", "09", "009", "+9", "-9", " 9", "9\t", "9\n", "9\x00", "9=", "9.", "9,", "9a", "a9", "0x9", "x", "9x", "\x00", "\n", "=", "9\u00a0", "\uff19", "\xb9", "\u0669", "0999999", "1000000", "1000009", "9999999", "4294967305", "18446744073709551625", "340282366920938463463374607431768211465", strings.Repeat("9", 1000), strings.Repeat("9", 262000)} {
		checkInvalid(t, s+" path=a\n", 0, api.ErrSyntax)
		checkInvalid(t, "9 path=a\n"+s+" size=1\n", 9, api.ErrSyntax)
	}
	for _, s := range []string{"0", "9", "x", " ", "\n", "=", "\x00", "9path=a\n", "9\npath=a\n", "9=path a\n", "999999", "9999999", strings.Repeat("9", 262144), strings.Repeat(" ", 262144), strings.Repeat("\x00", 512), strings.Repeat("\x00", 262144)} {
		checkInvalid(t, s, 0, api.ErrSyntax)
	}
	for _, s := range []string{"9", "x", " ", "\n", "\x00", "path=a", "9size=1\n", strings.Repeat("\x00", 503)} {
		checkInvalid(t, "9 path=a\n"+s, 9, api.ErrSyntax)
	}
}

// P9.4: the second check. It precedes the other errors of the record, but not an error of a record before it.
func TestParseOfTruncatedRecords(t *testing.T) {
	for _, s := range []string{"9 ", "9 path=a", "10 path=a", "11 path=ab", "19 path=a\n9 size=1", "10 mtime=", "9 \x00", "9 size=\n", "999999 path=a\n", "100000 x", "262144 path=a\n", "262145 " + x(262137), "262146 " + x(262137), "999999 " + x(262137), "3 ", "99 path=" + x(90), "19 size=\n9 size=1\n"} {
		checkInvalid(t, s, 0, api.ErrTruncated)
	}
	checkInvalid(t, "9 path=a\n10 path=b\n", 9, api.ErrSyntax)
	checkInvalid(t, "9 path=a\n10 path=b", 9, api.ErrTruncated)
	checkInvalid(t, "9 path=a\n11 path=b\n", 9, api.ErrTruncated)
	checkInvalid(t, "9 size=1\n9 path=\n", 9, api.ErrTruncated)
	checkInvalid(t, "9 size=x\n9 path=", 0, api.ErrSyntax)
	for n := 1; n < len("14 linkpath=c\n9 path=b\n11 size=10\n"); n++ {
		compareParse(t, "14 linkpath=c\n9 path=b\n11 size=10\n"[:n])
	}
}

// P9.4: the third check, the form of a record and its least length.
func TestParseOfMalformedRecords(t *testing.T) {
	for _, s := range []string{"1 \n", "1 =\n", "2 \n", "2 =\n", "3 \n", "3 =\n", "4 a\n", "9 path a\n", "9 path=ab", "9 path=a ", "9 path=a\x00", "9 path=a\r", "8 path=a\n", "7 path=a\n", "10 path=a\n", "10 path=ab\n", "10 path=a\n\n", "9 path:a\n=", "10 path a\n=\n", "10 path=ab", "18 path=a\n9 size=1", "11 path ab\n", "11 pathaaa\n", "12 path=ab\n=", "10 path=\n=\n", "100 path=" + x(91) + "\n", "100 path=" + x(90) + "\n=", "1000 path=" + x(990) + "\n", "10000 path=" + x(9989) + "\n"} {
		checkInvalid(t, s, 0, api.ErrSyntax)
		checkInvalid(t, "14 linkpath=a\n"+s, 14, api.ErrSyntax)
	}
	// Only the least consistent length is accepted, where there are two of them.
	checkParse(t, "99 path="+x(90)+"\n", []api.Record{record("path", x(90))}, 99, api.OK)
	checkInvalid(t, "100 path="+x(90)+"\n", 0, api.ErrSyntax)
	checkParse(t, "999 path="+x(989)+"\n", []api.Record{record("path", x(989))}, 999, api.OK)
	checkInvalid(t, "1000 path="+x(989)+"\n", 0, api.ErrSyntax)
	checkParse(t, "9999 path="+x(9988)+"\n", []api.Record{record("path", x(9988))}, 9999, api.OK)
	checkInvalid(t, "10000 path="+x(9988)+"\n", 0, api.ErrSyntax)
	// The form precedes the key, the value and the order.
	checkInvalid(t, "10 Path=a\n", 0, api.ErrSyntax)
	checkInvalid(t, "10 size=a\n", 0, api.ErrSyntax)
	checkInvalid(t, "9 size=1\n10 path=a\n", 9, api.ErrSyntax)
}

// P9.4: the key ends at the first equals sign; it begins after the first space, and may itself be empty or have spaces and newlines.
func TestParseFindsTheFirstEqualsSign(t *testing.T) {
	checkInvalid(t, "4 =\n", 0, api.ErrRecord)
	checkInvalid(t, "5 ==\n", 0, api.ErrRecord)
	checkInvalid(t, "5 =\n\n", 0, api.ErrRecord)
	checkInvalid(t, "10 =path=a\n", 0, api.ErrSyntax)
	checkInvalid(t, "11 =path=a\n", 0, api.ErrRecord)
	checkInvalid(t, "11  path=a\n", 0, api.ErrRecord)
	checkInvalid(t, "11 path =a\n", 0, api.ErrRecord)
	checkInvalid(t, "11 path\n=a\n", 0, api.ErrRecord)
	checkInvalid(t, "13 path\n\n\n=a\n", 0, api.ErrRecord)
	checkParse(t, "12 path=a=b\n", []api.Record{record("path", "a=b")}, 12, api.OK)
	checkParse(t, "11 path===\n", []api.Record{record("path", "==")}, 11, api.OK)
}

// P9.4: the fourth check, the error of Check.
func TestParseOfInvalidRecords(t *testing.T) {
	for _, r := range []api.Record{record("mtime", "1"), record("", ""), record("Path", "a"), record("path\x00", "a"), record("", "path"), record("a", ""), record("zzz", x(70000)), record("path", ""), record("path", "\x00"), record("linkpath", ""), record("linkpath", "a\x00"), record("path", x(65537)), record("path", strings.Repeat("\x00", 65537)), record("linkpath", x(200000)), record("size", ""), record("size", "01"), record("size", "x"), record("size", " 1"), record("size", "1 "), record("size", "=1"), record("size", "1\n"), record("size", "-1"), record("size", "1099511627777"), record("size", "18446744073709551616"), record("size", strings.Repeat("9", 70000))} {
		err := check(r)
		if err == api.OK {
			t.Fatalf("%.50q is valid", r)
		}
		checkInvalid(t, encode(r), 0, err)
		checkInvalid(t, "14 linkpath=b\n"+encode(r), 14, err)
		checkInvalid(t, "14 linkpath=b\n9 path=c\n"+encode(r)+"x", 23, err)
		// It precedes the order, for the same record.
		checkInvalid(t, "9 size=0\n"+encode(r), 9, err)
	}
	checkInvalid(t, "14 linkpath=b\n65549 path="+x(65537)+"\n", 14, api.ErrTooLong)
}

// P9.4: the last check.
func TestParseOfWrongOrders(t *testing.T) {
	checkInvalid(t, "9 path=a\n9 path=a\n", 9, api.ErrOrder)
	checkInvalid(t, "9 path=a\n9 path=b\n", 9, api.ErrOrder)
	checkInvalid(t, "9 path=a\n14 linkpath=b\n", 9, api.ErrOrder)
	checkInvalid(t, "9 size=1\n9 path=b\n", 9, api.ErrOrder)
	checkInvalid(t, "9 size=1\n14 linkpath=a\n", 9, api.ErrOrder)
	checkInvalid(t, "14 linkpath=a\n9 size=1\n9 path=a\n", 23, api.ErrOrder)
	checkInvalid(t, "14 linkpath=a\n9 path=a\n9 size=1\n9 size=1\n", 32, api.ErrOrder)
	checkInvalid(t, "9 size=1\n9 path=b\nx", 9, api.ErrOrder)
	checkInvalid(t, strings.Repeat("9 path=a\n", 20000), 9, api.ErrOrder)
}

// P9.4: a length of more than 262144 bytes precedes all other errors; up to it the records count.
func TestParseOfLongSlices(t *testing.T) {
	valid := []api.Record{record("linkpath", x(65536)), record("path", x(65536)), record("size", "1099511627776")}
	s := encodeAll(valid)
	checkParse(t, s, valid, len(s), api.OK)
	for n := len(s) + 1; n <= 262144; n += 10007 {
		checkInvalid(t, s+x(n-len(s)), len(s), api.ErrSyntax)
	}
	checkInvalid(t, s+x(262143-len(s)), len(s), api.ErrSyntax)
	checkInvalid(t, s+x(262144-len(s)), len(s), api.ErrSyntax)
	checkInvalid(t, s+x(262145-len(s)), 0, api.ErrTooLong)
	for _, n := range []int{262145, 262146, 524288, 1 << 20} {
		checkInvalid(t, s+x(n-len(s)), 0, api.ErrTooLong)
		checkInvalid(t, x(n), 0, api.ErrTooLong)
		checkInvalid(t, strings.Repeat("\x00", n), 0, api.ErrTooLong)
		checkInvalid(t, strings.Repeat("9 path=a\n", n/9+1), 0, api.ErrTooLong)
		checkInvalid(t, encode(record("path", x(n))), 0, api.ErrTooLong)
		checkInvalid(t, encode(record("mtime", x(n))), 0, api.ErrTooLong)
	}
	// Records of exactly and of one more than 262144 bytes.
	checkInvalid(t, "262144 path="+x(262131)+"\n", 0, api.ErrTooLong)
	checkInvalid(t, "262144 size="+strings.Repeat("9", 262131)+"\n", 0, api.ErrRange)
	checkInvalid(t, "262145 size="+strings.Repeat("9", 262132)+"\n", 0, api.ErrTooLong)
}

// P9.4: all short strings of an alphabet in which records can be written.
func TestParseOfAllShortStrings(t *testing.T) {
	each("0145 =\na", 6, func(s string) { compareParse(t, s) })
}

// P9.4: every number in front of records and of strings that are none.
func TestParseOfEveryNumber(t *testing.T) {
	accepted := 0
	for _, s := range []string{"", " ", "\n", " \n", " =\n", " path=a\n", " path=ab\n", " path=\n", " path a\n", " path==\n", " size=0\n", " size=00\n", " size=10\n", " linkpath=a\n", " linkpath=\n", " mtime=1\n", " Path=a\n", " path=a\n9 size=1\n", " path=a\n9 path=b\n", " size=1\n9 path=b\n", " size=1 14 linkpath=b\n", " path=" + x(89) + "\n", " path=" + x(90) + "\n", " path=" + x(91) + "\n", " path=" + x(90) + "\n\n"} {
		for n := range 200 {
			for _, prefix := range []string{"", "0", " ", "+"} {
				if compareParse(t, prefix+strconv.Itoa(n)+s) {
					accepted++
				}
			}
		}
	}
	if accepted < 10 {
		t.Errorf("only %d strings are accepted", accepted)
	}
}

// P9.4: encodings in which a byte is replaced, inserted or missing, or that end before their end.
func TestParseOfChangedEncodings(t *testing.T) {
	for _, s := range []string{"9 path=a\n", "9 size=0\n", "14 linkpath=b\n", "11 path=a=\n", "19 size=8589934592\n", "22 size=1099511627776\n", "14 linkpath=b\n9 path=a\n11 size=10\n", "9 path=a\n9 size=1\n", "99 path=" + x(90) + "\n9 size=1\n", "101 path=" + x(91) + "\n"} {
		if !compareParse(t, s) {
			t.Fatalf("%q is not accepted", s)
		}
		for i := range s {
			compareParse(t, s[:i])
			compareParse(t, s[i:])
			compareParse(t, s[:i]+s[i+1:])
			compareParse(t, s[:i]+s)
			for c := range 256 {
				b := string([]byte{byte(c)})
				compareParse(t, s[:i]+b+s[i+1:])
				compareParse(t, s[:i]+b+s[i:])
				compareParse(t, s+b)
			}
		}
	}
}

// P9.4: lists of valid and invalid records: the offset is that of the first invalid one.
func TestParseOfAllShortLists(t *testing.T) {
	records := []api.Record{record("linkpath", "a"), record("path", "b"), record("path", x(91)), record("size", "0"), record("linkpath", ""), record("path", "\x00"), record("path", x(65537)), record("size", "00"), record("size", "1099511627777"), record("mtime", "1"), record("", "")}
	eachList(records, 3, func(l []api.Record) {
		i, err := checkAll(l)
		if err == api.OK {
			checkParse(t, encodeAll(l), l, len(encodeAll(l)), api.OK)
			return
		}
		checkInvalid(t, encodeAll(l), len(encodeAll(l[:i])), err)
	})
}

// Rule 4: a record keeps its value when the bytes change later, and only the bytes up to the length of a slice count.
func TestParseSharesNoMemory(t *testing.T) {
	b := []byte("9 path=a\n9 size=1\n")
	l, _, _ := paxrec.Parse(b)
	again, _, _ := paxrec.Parse(b)
	l[0] = record("x", "y")
	clear(b)
	if want := []api.Record{record("path", "a"), record("size", "1")}; !slices.Equal(again, want) {
		t.Errorf("the records became %q", again)
	}
	b = []byte("9 path=a\n9 size=1\n")
	if l, n, err := paxrec.Parse(b[:9]); len(l) != 1 || n != 9 || err != api.OK {
		t.Errorf("Parse of the first record = %q, %d, %v", l, n, err)
	}
	if l, n, err := paxrec.Parse(b[:8]); len(l) != 0 || n != 0 || err != api.ErrTruncated {
		t.Errorf("Parse of 8 bytes = %q, %d, %v", l, n, err)
	}
	if l, n, err := paxrec.Parse(b[:0]); len(l) != 0 || n != 0 || err != api.OK {
		t.Errorf("Parse of no bytes = %q, %d, %v", l, n, err)
	}
}

// P9.5, first half
func TestParseInvertsFormat(t *testing.T) {
	for _, l := range validLists() {
		b, err := paxrec.Format(l...)
		if err != api.OK {
			t.Fatalf("Format(%.200q) = %v", l, err)
		}
		size := 0
		for _, r := range l {
			size += paxrec.Size(r)
		}
		checkParse(t, string(b), l, size, api.OK)
	}
	for n := 1; n < 1200; n++ {
		l := []api.Record{record("linkpath", x(n)), record("path", strings.Repeat("=", n)), record("size", strconv.Itoa(n))}
		b, _ := paxrec.Format(l...)
		checkParse(t, string(b), l, len(b), api.OK)
	}
}

// P9.5, second half: random strings that are made of parts of records.
func TestAcceptedBytesAreCanonical(t *testing.T) {
	random := rand.New(rand.NewSource(9))
	parts := []string{"9 path=a\n", "9 size=1\n", "14 linkpath=b\n", "11 path=", "11 size=", "10 path=", "10 size=", "15 linkpath=", "9 ", "path", "size", "=", "\n", " ", "a", "1", "0", "10", "12", "x=", "\x00"}
	accepted := 0
	for range 300000 {
		s := ""
		for range 1 + random.Intn(4) {
			s += parts[random.Intn(len(parts))]
		}
		l, n, err := paxrec.Parse([]byte(s))
		compareParse(t, s)
		if err != api.OK {
			continue
		}
		accepted++
		b, err := paxrec.Format(l...)
		if !bytes.Equal(b, []byte(s)) || n != len(s) || err != api.OK {
			t.Errorf("Parse(%q) = %q, %d, which has the encoding %q, %v", s, l, n, b, err)
		}
	}
	if accepted < 1000 {
		t.Errorf("only %d strings are accepted", accepted)
	}
}

// P1: no call panics, whatever its arguments.
func TestNoPanic(t *testing.T) {
	keys := slices.Concat(permitted, unknown, []string{x(70000)})
	values := slices.Concat(goodText, badText, noNumbers, bigNumbers)
	for _, key := range keys {
		for _, value := range values {
			r := record(key, value)
			paxrec.Check(r)
			paxrec.Size(r)
			paxrec.Format(r)
			paxrec.Format(r, r)
			paxrec.Parse([]byte(encode(r)))
			paxrec.Parse([]byte(key + value))
		}
	}
	paxrec.Parse(nil)
	paxrec.Format()
	for length := range 600 {
		for _, c := range []byte{0, ' ', '0', '1', '9', '=', '\n', 255} {
			paxrec.Parse(bytes.Repeat([]byte{c}, length))
		}
	}
}
