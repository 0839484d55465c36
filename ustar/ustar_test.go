package ustar_test

import (
	"archive/tar"
	"bytes"
	"fmt"
	"io"
	"math"
	"math/rand"
	"regexp"
	"slices"
	"strconv"
	"strings"
	"testing"
	"time"

	"paxtar/api"
	"paxtar/ustar"
)

var types = []byte{'0', '1', '2', '5', 'x'}

// names are strings of at most 100 bytes without a NUL byte: the shortest ones, those around the width, paths, high bytes and bytes that are no UTF-8.
var names = []string{"", "a", "pax", "a/b", "/", "../", " ", "\n", "0", "\x01", "\xff\xfe", "\u00e9\U0001f600", strings.Repeat("n", 99), strings.Repeat("/", 100), strings.Repeat("\xff", 100)}

var prefixes = append([]string{strings.Repeat("p", 101), strings.Repeat("p", 154), strings.Repeat("\xff", 155)}, names...)

var modes = []int{0, 1, 7, 8, 0o644, 0o755, 0o1777, 2048, 4094, 4095}

var sizes = []int64{0, 1, 3, 7, 8, 511, 512, 1<<31 - 1, 1 << 31, 1 << 32, 1<<32 + 5, 8589934590, 8589934591}

// What decode expects of the fields. Bytes that are no UTF-8 match like characters.
var (
	isText = regexp.MustCompile(`(?s)^[^\x00]*\x00*$`)
	isMode = regexp.MustCompile(`^000[0-7]{4}\x00$`)
	isSize = regexp.MustCompile(`^[0-7]{11}\x00$`)
)

// seal writes the checksum without the packages of the program.
func seal(b []byte) []byte {
	b = slices.Clone(b)
	copy(b[148:156], "        ")
	n := 0
	for _, c := range b {
		n += int(c)
	}
	copy(b[148:], fmt.Sprintf("%06o\x00 ", n))
	return b
}

// encode builds the block of a valid header without the packages of the program.
func encode(h ustar.Header) []byte {
	b := pad(h.Name, 100) + fmt.Sprintf("%07o\x00", h.Mode) + "0000000\x00" + "0000000\x00" + fmt.Sprintf("%011o\x00", h.Size) + "00000000000\x00" +
		pad("", 8) + string([]byte{h.Type}) + pad(h.Linkname, 100) + "ustar\x00" + "00" + pad("", 32) + pad("", 32) + "0000000\x00" + "0000000\x00" + pad(h.Prefix, 155) + pad("", 12)
	return seal([]byte(b))
}

func pad(s string, width int) string { return s + strings.Repeat("\x00", width-len(s)) }

// decode finds the result for a block with the right checksum, without the packages of the program.
func decode(b []byte) (ustar.Header, api.Errno) {
	if !bytes.Contains(types, b[156:157]) {
		return ustar.Header{}, api.ErrKind
	}
	s := string(b)
	fixed := s[108:124] == "0000000\x000000000\x00" && s[136:148] == "00000000000\x00" && s[257:345] == "ustar\x0000"+pad("", 64)+"0000000\x000000000\x00" && s[500:] == pad("", 12)
	if !fixed || !isText.Match(b[0:100]) || !isText.Match(b[157:257]) || !isText.Match(b[345:500]) || !isMode.Match(b[100:108]) || !isSize.Match(b[124:136]) {
		return ustar.Header{}, api.ErrSyntax
	}
	m, _ := strconv.ParseInt(s[100:107], 8, 64)
	n, _ := strconv.ParseInt(s[124:135], 8, 64)
	cut := func(s string) string { return strings.TrimRight(s, "\x00") }
	return ustar.Header{Type: s[156], Name: cut(s[0:100]), Prefix: cut(s[345:500]), Linkname: cut(s[157:257]), Mode: int(m), Size: n}, api.OK
}

// headers returns valid headers in which each field takes each of its chosen values, for each type.
func headers() []ustar.Header {
	var l []ustar.Header
	for i, c := range types {
		for j, s := range names {
			l = append(l,
				ustar.Header{Type: c, Name: s},
				ustar.Header{Type: c, Linkname: s},
				ustar.Header{Type: c, Name: s, Linkname: names[(i+j)%len(names)], Prefix: prefixes[(i+2*j)%len(prefixes)], Mode: modes[(i+j)%len(modes)], Size: sizes[(i+j)%len(sizes)]})
		}
		for _, s := range prefixes {
			l = append(l, ustar.Header{Type: c, Prefix: s}, ustar.Header{Type: c, Name: "n", Prefix: s, Linkname: "l", Mode: 0o4321, Size: 0o76543210123})
		}
		for _, n := range modes {
			l = append(l, ustar.Header{Type: c, Mode: n})
		}
		for _, n := range sizes {
			l = append(l, ustar.Header{Type: c, Name: "a", Size: n})
		}
	}
	return l
}

// checkHeader checks what Check and Encode return for a header: a block, or an error and no block.
func checkHeader(t *testing.T, h ustar.Header, want api.Errno) {
	t.Helper()
	if err := ustar.Check(h); err != want {
		t.Fatalf("Check(%.200q) = %v; want %v", fmt.Sprint(h), err, want)
	}
	b, err := ustar.Encode(h)
	if err != want {
		t.Fatalf("Encode(%.200q) = %v; want %v", fmt.Sprint(h), err, want)
	}
	var block []byte
	if want == api.OK {
		block = encode(h)
	}
	if !bytes.Equal(b, block) {
		t.Fatalf("Encode(%.200q) = %q; want %q", fmt.Sprint(h), b, block)
	}
}

func checkDecode(t *testing.T, b []byte, want ustar.Header, wantErr api.Errno) {
	t.Helper()
	before := slices.Clone(b)
	h, err := ustar.Decode(b)
	if h != want || err != wantErr {
		t.Fatalf("Decode(%q) = %q, %v; want %q, %v", before, fmt.Sprint(h), err, fmt.Sprint(want), wantErr)
	}
	if !bytes.Equal(b, before) {
		t.Fatalf("Decode(%q) changed its argument to %q", before, b)
	}
}

// with returns a sealed copy of a block that has other bytes at an offset.
func with(block []byte, offset int, text string) []byte {
	b := slices.Clone(block)
	copy(b[offset:], text)
	return seal(b)
}

// The chapter's example.
func TestExample(t *testing.T) {
	h := ustar.Header{Type: ustar.TypeFile, Name: "a", Mode: 420, Size: 3}
	b, err := ustar.Encode(h)
	if err != api.OK || len(b) != 512 {
		t.Fatalf("Encode = %q, %v", b, err)
	}
	if string(b[100:108]) != "0000644\x00" || string(b[124:136]) != "00000000003\x00" {
		t.Errorf("the mode is %q and the size %q", b[100:108], b[124:136])
	}
	checkDecode(t, b, h, api.OK)
}

// The values of the constants.
func TestTypes(t *testing.T) {
	got := []byte{ustar.TypeFile, ustar.TypeHardlink, ustar.TypeSymlink, ustar.TypeDir, ustar.TypePax}
	if !bytes.Equal(got, types) {
		t.Errorf("the types are %q; want %q", got, types)
	}
}

// P7.1 and P7.2
func TestValidHeaders(t *testing.T) {
	for _, h := range headers() {
		checkHeader(t, h, api.OK)
	}
}

// P7.1: each type, also where all other fields are invalid.
func TestKinds(t *testing.T) {
	long := strings.Repeat("x", 156)
	for c := range 256 {
		want, wantInvalid := api.ErrKind, api.ErrKind
		if bytes.IndexByte(types, byte(c)) >= 0 {
			want, wantInvalid = api.OK, api.ErrTooLong
		}
		checkHeader(t, ustar.Header{Type: byte(c)}, want)
		checkHeader(t, ustar.Header{Type: byte(c), Name: "a", Prefix: "p", Linkname: "l", Mode: 420, Size: 3}, want)
		checkHeader(t, ustar.Header{Type: byte(c), Name: long, Prefix: "\x00", Linkname: "\x00", Mode: -1, Size: -1}, wantInvalid)
	}
	checkHeader(t, ustar.Header{}, api.ErrKind)
}

// P7.1: a name and a link name have a width of 100, a prefix has one of 155; a NUL byte precedes the length.
func TestTexts(t *testing.T) {
	for _, c := range []struct {
		width int
		set   func(h *ustar.Header, s string)
	}{
		{100, func(h *ustar.Header, s string) { h.Name = s }},
		{100, func(h *ustar.Header, s string) { h.Linkname = s }},
		{155, func(h *ustar.Header, s string) { h.Prefix = s }},
	} {
		check := func(s string, want api.Errno) {
			t.Helper()
			for _, kind := range types {
				h := ustar.Header{Type: kind, Name: "n", Linkname: "l", Prefix: "p", Mode: 420, Size: 3}
				c.set(&h, s)
				checkHeader(t, h, want)
			}
		}
		for n := range 2 * c.width {
			s := strings.Repeat("x", n)
			want := api.OK
			if n > c.width {
				want = api.ErrTooLong
			}
			check(s, want)
			check(s+"\x00", api.ErrSyntax)
			check("\x00"+s, api.ErrSyntax)
			check(s[:n/2]+"\x00"+s[n/2:], api.ErrSyntax)
		}
		for _, n := range []int{256, 256 + 10, 512, 1 << 16, 1<<16 + 10} {
			check(strings.Repeat("x", n), api.ErrTooLong)
			check(strings.Repeat("\x00", n), api.ErrSyntax)
		}
		for _, s := range []string{"\u00e9", "\xff", "\U0001f600"} {
			check(strings.Repeat(s, 100), map[bool]api.Errno{true: api.OK, false: api.ErrTooLong}[100*len(s) <= c.width])
		}
	}
}

// P7.1
func TestModes(t *testing.T) {
	for n := range 4096 {
		checkHeader(t, ustar.Header{Type: '0', Mode: n}, api.OK)
	}
	for _, n := range []int{math.MinInt, math.MinInt32, -1 << 32, -4096, -4095, -2, -1, 4096, 4097, 8191, 0o1000644, 2097151, 2097152, 1 << 32, 1<<32 + 420, math.MaxInt32, math.MaxInt} {
		for _, c := range types {
			checkHeader(t, ustar.Header{Type: c, Mode: n}, api.ErrMode)
		}
	}
}

// P7.1
func TestSizes(t *testing.T) {
	for p := int64(1); p <= 8589934591; p *= 2 {
		for _, n := range []int64{p - 1, p, p + 1, 8589934591 - p, 8589934592 - p} {
			checkHeader(t, ustar.Header{Type: '0', Size: n}, api.OK)
		}
	}
	for _, n := range []int64{math.MinInt64, math.MinInt32, -8589934591, -2, -1, 8589934592, 8589934593, 1 << 34, 1<<36 - 1, 1 << 36, api.MaxSize, math.MaxInt64} {
		for _, c := range types {
			checkHeader(t, ustar.Header{Type: c, Size: n}, api.ErrRange)
		}
	}
}

// P7.1: of several errors the first one is returned, for all combinations of right and wrong fields.
func TestOrderOfErrors(t *testing.T) {
	type text struct {
		value string
		want  api.Errno
	}
	short := []text{{"x", api.OK}, {strings.Repeat("x", 101), api.ErrTooLong}, {"x\x00", api.ErrSyntax}, {strings.Repeat("x", 101) + "\x00", api.ErrSyntax}}
	long := []text{{strings.Repeat("x", 101), api.OK}, {strings.Repeat("x", 156), api.ErrTooLong}, {"\x00x", api.ErrSyntax}, {"\x00" + strings.Repeat("x", 156), api.ErrSyntax}}
	for kind, kindErr := range map[byte]api.Errno{'2': api.OK, 'x': api.OK, 0: api.ErrKind, '3': api.ErrKind} {
		for _, name := range short {
			for _, link := range short {
				for _, prefix := range long {
					for mode, modeErr := range map[int]api.Errno{420: api.OK, -1: api.ErrMode, 4096: api.ErrMode} {
						for size, sizeErr := range map[int64]api.Errno{3: api.OK, -1: api.ErrRange, 8589934592: api.ErrRange} {
							want := api.OK
							for _, err := range []api.Errno{sizeErr, modeErr, prefix.want, link.want, name.want, kindErr} {
								if err != api.OK {
									want = err
								}
							}
							checkHeader(t, ustar.Header{Type: kind, Name: name.value, Prefix: prefix.value, Linkname: link.value, Mode: mode, Size: size}, want)
						}
					}
				}
			}
		}
	}
}

// P7.2: the layout, byte by byte, of a header in which every field is full, and of one in which every field is empty.
func TestLayout(t *testing.T) {
	full := ustar.Header{Type: '1', Name: strings.Repeat("n", 100), Prefix: strings.Repeat("p", 155), Linkname: strings.Repeat("l", 100), Mode: 4095, Size: 8589934591}
	fixed := map[int]string{108: "0000000\x00", 116: "0000000\x00", 136: "00000000000\x00", 257: "ustar\x00", 263: "00", 265: pad("", 32), 297: pad("", 32), 329: "0000000\x00", 337: "0000000\x00", 500: pad("", 12)}
	for _, c := range []struct {
		h      ustar.Header
		fields map[int]string
	}{
		{full, map[int]string{0: full.Name, 100: "0007777\x00", 124: "77777777777\x00", 148: "123721\x00 ", 156: "1", 157: full.Linkname, 345: full.Prefix}},
		{ustar.Header{Type: '5'}, map[int]string{0: pad("", 100), 100: "0000000\x00", 124: "00000000000\x00", 148: "007164\x00 ", 156: "5", 157: pad("", 100), 345: pad("", 155)}},
	} {
		b, err := ustar.Encode(c.h)
		if err != api.OK || len(b) != 512 {
			t.Fatalf("Encode = %q, %v", b, err)
		}
		covered := 0
		for _, l := range []map[int]string{fixed, c.fields} {
			for offset, want := range l {
				covered += len(want)
				if got := string(b[offset:][:len(want)]); got != want {
					t.Errorf("at %d: %q; want %q", offset, got, want)
				}
			}
		}
		if covered != 512 {
			t.Errorf("the fields have %d bytes", covered)
		}
	}
}

// P7.2 and rule 4: a block shares no memory with the result of another call.
func TestEncodeReturnsNewMemory(t *testing.T) {
	h := ustar.Header{Type: '2', Name: "a", Prefix: "p", Linkname: "l", Mode: 511, Size: 9}
	a, _ := ustar.Encode(h)
	b, _ := ustar.Encode(h)
	for i := range a {
		a[i] = 'x'
	}
	if !bytes.Equal(b, encode(h)) {
		t.Errorf("the second block became %q", b)
	}
	checkHeader(t, h, api.OK)
}

// P7.3: a wrong length comes first, whatever the bytes are.
func TestDecodeOfWrongLengths(t *testing.T) {
	checkDecode(t, nil, ustar.Header{}, api.ErrArg)
	b := encode(ustar.Header{Type: '0', Name: "a"})
	for n := range 512 {
		checkDecode(t, b[:n], ustar.Header{}, api.ErrArg)
		checkDecode(t, b[512-n:], ustar.Header{}, api.ErrArg)
	}
	for _, n := range []int{1, 2, 511, 512, 1024, 1 << 16} {
		checkDecode(t, append(slices.Clone(b), make([]byte, n)...), ustar.Header{}, api.ErrArg)
		checkDecode(t, append(make([]byte, n), b...), ustar.Header{}, api.ErrArg)
	}
	checkDecode(t, append(slices.Clone(b), b...), ustar.Header{}, api.ErrArg)
}

// P7.3: the error of the checksum precedes those of the type and of the fields.
func TestDecodeOfWrongChecksums(t *testing.T) {
	for _, c := range []byte{0, ' ', '0', 'x', 255} {
		checkDecode(t, bytes.Repeat([]byte{c}, 512), ustar.Header{}, api.ErrChecksum)
	}
	for _, h := range []ustar.Header{{Type: '0'}, {Type: 'x', Name: "pax", Size: 9}, {Type: '1', Name: "a", Linkname: "b", Prefix: "c", Mode: 4095}} {
		b := encode(h)
		for i, c := range encode(h) {
			for other := range 256 {
				if byte(other) != c {
					b[i] = byte(other)
					if got, err := ustar.Decode(b); got != (ustar.Header{}) || err != api.ErrChecksum {
						t.Fatalf("byte %d changed from %d to %d: %q, %v", i, c, other, fmt.Sprint(got), err)
					}
				}
			}
			b[i] = c
		}
	}
	b := encode(ustar.Header{Type: '0', Name: "a"})
	sum := string(b[148:156])
	for _, field := range []string{pad("", 8), "        ", sum[:6] + " \x00", sum[:6] + "\x00\x00", "0" + sum[:6] + "\x00", sum[1:6] + "\x00  "} {
		copy(b[148:], field)
		checkDecode(t, b, ustar.Header{}, api.ErrChecksum)
	}
}

// P7.3: the error of the type precedes those of the fields.
func TestDecodeOfEveryType(t *testing.T) {
	b := encode(ustar.Header{Type: '0', Name: "a", Mode: 420, Size: 3})
	for c := range 256 {
		text := string([]byte{byte(c)})
		want, wantErr, wantInvalid := ustar.Header{}, api.ErrKind, api.ErrKind
		if bytes.IndexByte(types, byte(c)) >= 0 {
			want, wantErr, wantInvalid = ustar.Header{Type: byte(c), Name: "a", Mode: 420, Size: 3}, api.OK, api.ErrSyntax
		}
		checkDecode(t, with(b, 156, text), want, wantErr)
		for _, offset := range []int{50, 100, 135, 265, 300, 511} {
			checkDecode(t, with(with(b, 156, text), offset, "\xff"), ustar.Header{}, wantInvalid)
		}
	}
	checkDecode(t, seal(make([]byte, 512)), ustar.Header{}, api.ErrKind)
}

// P7.3: each value of each byte, in blocks with empty, with some and with full fields.
func TestDecodeOfEveryByte(t *testing.T) {
	for _, h := range []ustar.Header{
		{Type: '5'},
		{Type: '0', Name: "a", Prefix: "pp", Linkname: "lll", Mode: 420, Size: 3},
		{Type: '2', Name: strings.Repeat("n", 100), Prefix: strings.Repeat("p", 155), Linkname: strings.Repeat("l", 100), Mode: 4095, Size: 8589934591},
	} {
		block := encode(h)
		for i := range 512 {
			for c := range 256 {
				b := with(block, i, string([]byte{byte(c)}))
				want, wantErr := decode(b)
				checkDecode(t, b, want, wantErr)
			}
		}
	}
}

// P7.3: what other archivers write or accept.
func TestDecodeOfOtherNotations(t *testing.T) {
	b := encode(ustar.Header{Type: '0', Name: "a", Prefix: "p", Linkname: "l", Mode: 420, Size: 3})
	for offset, l := range map[int][]string{
		1:   {"\x00a", "\x00\x00/", "\n\x00\x01"},
		99:  {"\x01"},
		100: {"0000644 ", "000644 \x00", "   0644\x00", "644\x00\x00\x00\x00\x00", "0100644\x00", "00006440", "+000644\x00", "-000001\x00", "\x80\x00\x00\x00\x00\x00\x01\xa4", pad("", 8), "0000648\x00", "0010000\x00", "0010644\x00", "7777777\x00"},
		108: {"0000001\x00", "0001750\x00", pad("", 8), "      0\x00", "0000000 ", "000000 \x00", "7777777\x00"},
		116: {"0000001\x00", "0001750\x00", pad("", 8), "      0\x00", "0000000 ", "000000 \x00", "7777777\x00"},
		124: {"00000000003 ", "          3\x00", "3" + pad("", 11), "000000000003", "0000000003 \x00", "00000000008\x00", "-0000000001\x00", "\x80" + pad("", 10) + "\x03", "\x80\x00\x00\x00\x02" + pad("", 7), pad("", 12)},
		136: {"00000000001\x00", "14371573042\x00", pad("", 12), "          0\x00", "00000000000 "},
		158: {"\x00l", "\x00\x00l"},
		256: {"\x01"},
		257: {"ustar  \x00", "ustar 00", "ustar\x00 0", "ustar\x000\x00", "ustar\x00\x00\x00", "USTAR\x0000", "ustar\x0001", pad("", 8), "ustar00\x00"},
		265: {"root", "\x00root", "0"},
		296: {"\x01"},
		297: {"root", "\x00root", "0"},
		328: {"\x01"},
		329: {"0000001\x00", pad("", 8), "      0\x00"},
		337: {"0000001\x00", pad("", 8), "      0\x00"},
		346: {"\x00p", "\x00\x00p"},
		499: {"\x01"},
		500: {"\x01", "0", "00000000000\x00"},
		508: {"tar\x00"},
		511: {"\x01", " "},
	} {
		for _, text := range l {
			checkDecode(t, with(b, offset, text), ustar.Header{}, api.ErrSyntax)
		}
	}
}

// P7.3: every mode that the field can hold up to 2^14, and the greatest one.
func TestDecodeOfModes(t *testing.T) {
	b := encode(ustar.Header{Type: '5'})
	for _, n := range append(slices.Collect(numbers(1<<14)), 1<<20, 1<<20+420, 1<<21-1) {
		block := with(b, 100, fmt.Sprintf("%07o", n))
		if n <= 4095 {
			checkDecode(t, block, ustar.Header{Type: '5', Mode: n}, api.OK)
		} else {
			checkDecode(t, block, ustar.Header{}, api.ErrSyntax)
		}
	}
}

func numbers(end int) func(yield func(int) bool) {
	return func(yield func(int) bool) {
		for n := range end {
			if !yield(n) {
				return
			}
		}
	}
}

// P7.3: a field without a NUL byte at its end does not reach into the next one.
func TestDecodeOfFullFields(t *testing.T) {
	for _, h := range headers() {
		h.Name = strings.Repeat("n", 100)
		checkDecode(t, encode(h), h, api.OK)
		h.Linkname = strings.Repeat("l", 100)
		checkDecode(t, encode(h), h, api.OK)
		h.Prefix = strings.Repeat("p", 155)
		checkDecode(t, encode(h), h, api.OK)
	}
}

// P7.3 and rule 4: the decoded header keeps its strings when the block is modified, and nothing beyond the block is read.
func TestTheArgumentOfDecode(t *testing.T) {
	want := ustar.Header{Type: '1', Name: "name", Prefix: "prefix", Linkname: "link", Mode: 1, Size: 2}
	b := slices.Concat([]byte("before"), encode(want), []byte("after"))
	checkDecode(t, b[5:517], ustar.Header{}, api.ErrChecksum)
	checkDecode(t, b[6:517], ustar.Header{}, api.ErrArg)
	h, err := ustar.Decode(b[6:518])
	for i := range b {
		b[i] = 'x'
	}
	if h != want || err != api.OK {
		t.Errorf("the header became %q, %v", fmt.Sprint(h), err)
	}
}

// P7.4, first half.
func TestDecodeInvertsEncode(t *testing.T) {
	for _, h := range headers() {
		b, err := ustar.Encode(h)
		if err != api.OK {
			t.Fatalf("Encode(%q) = %v", fmt.Sprint(h), err)
		}
		checkDecode(t, b, h, api.OK)
	}
}

// P7.4, second half: blocks with several changes, of which many are accepted.
func TestAcceptedBlocksAreCanonical(t *testing.T) {
	random := rand.New(rand.NewSource(7))
	const bytesOfFields = "\x00\x00\x00aa/0017 \xff"
	l := headers()
	accepted := 0
	for range 30000 {
		b := encode(l[random.Intn(len(l))])
		other := encode(l[random.Intn(len(l))])
		for range 1 + random.Intn(3) {
			start := random.Intn(512)
			end := min(512, start+1+random.Intn(100))
			copy(b[start:end], other[start:end])
			if random.Intn(4) == 0 {
				b[start] = bytesOfFields[random.Intn(len(bytesOfFields))]
			}
		}
		b = seal(b)
		want, wantErr := decode(b)
		checkDecode(t, b, want, wantErr)
		h, err := ustar.Decode(b)
		if err != api.OK {
			continue
		}
		accepted++
		if again, err := ustar.Encode(h); err != api.OK || !bytes.Equal(again, b) {
			t.Fatalf("Decode accepts %q, but Encode returns %q, %v", b, again, err)
		}
	}
	if accepted < 3000 || accepted > 27000 {
		t.Errorf("%d of 30000 blocks are accepted", accepted)
	}
}

// P7.4: different headers have different blocks.
func TestEncodeIsInjective(t *testing.T) {
	blocks := map[string]ustar.Header{}
	for _, h := range headers() {
		b, _ := ustar.Encode(h)
		if other, ok := blocks[string(b)]; ok && other != h {
			t.Fatalf("%q and %q have the same block", fmt.Sprint(h), fmt.Sprint(other))
		}
		blocks[string(b)] = h
	}
}

// The format is that of other archivers: one of them writes the same block and reads it.
func TestAnotherArchiver(t *testing.T) {
	for _, h := range []ustar.Header{
		{Type: '0', Name: "a", Mode: 0o644, Size: 3},
		{Type: '0', Name: strings.Repeat("n", 100), Mode: 0o7777, Size: 8589934591},
		{Type: '0', Name: strings.Repeat("n", 60), Prefix: strings.Repeat("p", 99), Mode: 0o600},
		{Type: '5', Name: "dir/", Mode: 0o755},
		{Type: '2', Name: "link", Linkname: "target", Mode: 0o777},
		{Type: '1', Name: "hard", Linkname: "a"},
	} {
		path := h.Name
		if h.Prefix != "" {
			path = h.Prefix + "/" + h.Name
		}
		var out bytes.Buffer
		other := tar.Header{Typeflag: h.Type, Name: path, Linkname: h.Linkname, Mode: int64(h.Mode), Size: h.Size, ModTime: time.Unix(0, 0), Format: tar.FormatUSTAR}
		if err := tar.NewWriter(&out).WriteHeader(&other); err != nil {
			t.Fatal(err)
		}
		checkHeader(t, h, api.OK)
		checkDecode(t, out.Bytes(), h, api.OK)
		b, _ := ustar.Encode(h)
		got, err := tar.NewReader(bytes.NewReader(b)).Next()
		if err != nil && err != io.EOF {
			t.Fatal(err)
		}
		if got.Typeflag != h.Type || got.Name != path || got.Linkname != h.Linkname || got.Mode != int64(h.Mode) || got.Size != h.Size {
			t.Errorf("the other archiver reads %q for %q", fmt.Sprint(*got), fmt.Sprint(h))
		}
	}
}

// P1: no call panics, whatever its argument.
func TestNoPanic(t *testing.T) {
	for length := range 1100 {
		for _, c := range []byte{0, ' ', '0', 255} {
			ustar.Decode(bytes.Repeat([]byte{c}, length))
		}
	}
	for c := range 256 {
		for _, s := range []string{"", "\x00", "\xff", strings.Repeat("x", 1000)} {
			for _, n := range []int64{math.MinInt64, -1, 0, 1, math.MaxInt64} {
				h := ustar.Header{Type: byte(c), Name: s, Prefix: s, Linkname: s, Mode: int(n), Size: n}
				ustar.Check(h)
				ustar.Encode(h)
			}
		}
		for _, offset := range []int{0, 100, 124, 156, 157, 257, 345, 500} {
			ustar.Decode(with(make([]byte, 512), offset, string([]byte{byte(c)})))
			ustar.Decode(with(encode(ustar.Header{Type: 'x'}), offset, string([]byte{byte(c)})))
		}
	}
}
