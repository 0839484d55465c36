package entry_test

import (
	"archive/tar"
	"bytes"
	"fmt"
	"math"
	"math/rand"
	"slices"
	"strings"
	"testing"

	"paxtar/api"
	"paxtar/block"
	"paxtar/checksum"
	"paxtar/entry"
	"paxtar/fit"
	"paxtar/paxrec"
	"paxtar/source"
	"paxtar/ustar"
)

const (
	maxOctal   = 8589934591
	maxSize    = 1099511627776
	maxRecords = 262144
)

// never is a script without chunk sizes and without a failure.
var never = api.Script{FailAt: -1}

// splits are chunk sizes around the size of a block, and others.
var splits = [][]int{nil, {1}, {7, 100}, {511}, {512}, {513}, {511, 1}, {300, -1, 1000}, {1024}, {math.MaxInt, math.MinInt}}

// lone are headers that are the plan of an entry without records; joined ones are that with the record path=long.
var (
	lone = []ustar.Header{
		{Type: '5', Name: "d"}, {Type: '5', Name: "d/e", Mode: 0o755}, {Type: '5', Prefix: x(155), Name: x(100), Mode: 4095},
		{Type: '0', Name: "f"}, {Type: '0', Name: "f", Mode: 420, Size: 3}, {Type: '0', Name: x(100), Size: maxOctal}, {Type: '0', Name: "x"}, {Type: '0', Name: "pax", Size: 111},
		{Type: '2', Name: "s", Linkname: "t"}, {Type: '2', Name: "s", Linkname: "/../"}, {Type: '2', Prefix: "a", Name: x(100), Linkname: x(100)},
		{Type: '1', Name: "h", Linkname: "f"}, {Type: '1', Name: "h", Linkname: "a/b", Mode: 0o644},
	}
	joined = []ustar.Header{{Type: '5'}, {Type: '5', Mode: 493}, {Type: '0'}, {Type: '0', Mode: 420, Size: 3}, {Type: '0', Size: maxOctal}, {Type: '2', Linkname: "t"}, {Type: '1', Linkname: "f", Mode: 1}}
	// odd are valid headers, but the plan of no entry.
	odd = []ustar.Header{
		{Type: '5', Name: "/"}, {Type: '5', Name: "d/"}, {Type: '5', Name: "."}, {Type: '5', Name: "d", Size: 1}, {Type: '5', Name: "d", Linkname: "t"}, {Type: '5', Prefix: "d"}, {Type: '5', Prefix: "a", Name: "b"},
		{Type: '0', Name: "/f"}, {Type: '0', Name: "a//f"}, {Type: '0', Name: "../f"}, {Type: '0', Name: "f", Linkname: "t"}, {Type: '0', Prefix: "a", Name: x(98)}, {Type: '0', Prefix: x(154) + "/", Name: x(100)}, {Type: '0', Prefix: "a/b", Name: "c/" + x(95)},
		{Type: '2', Name: "s"}, {Type: '2', Name: "s", Linkname: "t", Mode: 1}, {Type: '2', Name: "s", Linkname: "t", Size: 1}, {Type: '2', Linkname: "t", Name: ".."},
		{Type: '1', Name: "h"}, {Type: '1', Name: "h", Linkname: "/f"}, {Type: '1', Name: "h", Linkname: ".."}, {Type: '1', Name: "h", Linkname: "f", Size: 1},
	}
)

// long is a path of 101 bytes, which does not fit a header; its record has 111 bytes.
var long = x(101)

// x returns a string of n bytes without a slash.
func x(n int) string { return strings.Repeat("x", n) }

// line returns an encoded record: the first length that is consistent.
func line(key, value string) string {
	rest := " " + key + "=" + value + "\n"
	for n := len(rest); ; n++ {
		if s := fmt.Sprint(n); len(s)+len(rest) == n {
			return s + rest
		}
	}
}

// lines returns the encoded records.
func lines(l []api.Record) string {
	s := ""
	for _, r := range l {
		s += line(r.Key, r.Value)
	}
	return s
}

// padded returns the given bytes and as many zero bytes as make whole blocks of them.
func padded(s string) []byte {
	b := []byte(s)
	for len(b)%512 != 0 {
		b = append(b, 0)
	}
	return b
}

// header returns the block of a valid header.
func header(h ustar.Header) []byte {
	b, err := ustar.Encode(h)
	if err != api.OK {
		panic(fmt.Sprint(h, err))
	}
	return b
}

// pax returns the block of the extended header of records with the given size.
func pax(size int) []byte {
	return header(ustar.Header{Type: 'x', Name: "pax", Size: int64(size)})
}

// extended returns the blocks of records: whatever they contain, their extended header is valid.
func extended(records string) []byte {
	return append(pax(len(records)), padded(records)...)
}

// with returns a block with another byte, and with the checksum of its bytes.
func with(b []byte, at int, value byte) []byte {
	b = slices.Clone(b)
	b[at] = value
	b, _ = checksum.Seal(b)
	return b
}

// encode is Encode for a valid entry.
func encode(e api.Entry) []byte {
	h, l, err := fit.Plan(e)
	if err != api.OK {
		panic(fmt.Sprint(e, err))
	}
	if len(l) == 0 {
		return header(h)
	}
	return append(extended(lines(l)), header(h)...)
}

// entries returns valid entries of all kinds, without records and with one or two; the records have lengths around the boundaries of blocks, and others.
func entries() []api.Entry {
	var texts []string
	for _, n := range []int{1, 99, 100, 101, 102, 300, 400, 500, 501, 502, 503, 600, 1010, 1011, 1012, 1013, 1014, 1015, 4096, 65535, 65536} {
		texts = append(texts, x(n))
	}
	// Beside the linkpath record of long, these paths make records of 501 to 516 bytes.
	for n := 376; n < 392; n++ {
		texts = append(texts, x(n))
	}
	texts = append(texts, "a/b", "pax", "path=a", "\n", "\xff", strings.Repeat("\xff", 101), strings.Repeat("\n", 101), strings.Repeat("=", 120), "a/"+x(100), x(155)+"/"+x(100), x(155)+"/"+x(101), strings.Repeat("a/", 200)+"a")
	var l []api.Entry
	for i, s := range texts {
		l = append(l, api.Entry{Kind: api.Dir, Path: s, Mode: i * 64}, api.Entry{Kind: api.Symlink, Path: s, Target: "t"}, api.Entry{Kind: api.Hardlink, Path: s, Target: long, Mode: i})
		l = append(l, api.Entry{Kind: api.Symlink, Path: "s", Target: s}, api.Entry{Kind: api.Symlink, Path: long, Target: s}, api.Entry{Kind: api.Hardlink, Path: s, Target: texts[(i+7)%len(texts)]})
		for _, n := range []int64{0, 3, maxOctal, maxOctal + 1, maxSize} {
			l = append(l, api.Entry{Kind: api.File, Path: s, Mode: 4095 - i, Size: n})
		}
	}
	return append(l, api.Entry{Kind: api.Symlink, Path: "s", Target: "/../" + x(100)}, api.Entry{Kind: api.Symlink, Path: "s", Target: "/"})
}

func newReader(b []byte, script api.Script) *block.Reader {
	return block.NewReader(source.New(b, script))
}

// text shortens a value for a message.
func text(v any) string {
	s := fmt.Sprintf("%+q", fmt.Sprint(v))
	if len(s) > 300 {
		return s[:300] + "..."
	}
	return s
}

// checkEncode checks the results of Encode.
func checkEncode(t *testing.T, e api.Entry, want []byte, wantErr api.Errno) {
	t.Helper()
	b, err := entry.Encode(e)
	if !bytes.Equal(b, want) || err != wantErr {
		t.Fatalf("Encode(%s) = %d bytes %s, %v; want %d bytes %s, %v", text(e), len(b), text(string(b)), err, len(want), text(string(want)), wantErr)
	}
}

// checkDecode checks the results of one call of Decode, and how far it has read.
func checkDecode(t *testing.T, r *block.Reader, want api.Entry, wantAt int, wantErr api.Errno, after int) {
	t.Helper()
	e, at, err := entry.Decode(r)
	if e != want || at != int64(wantAt) || err != wantErr || r.Offset() != int64(after) {
		t.Fatalf("Decode = %s, %d, %v, and then the offset is %d; want %s, %d, %v, %d", text(e), at, err, r.Offset(), text(want), wantAt, wantErr, after)
	}
}

// checkFails checks a call that fails for the given stream, alone and after another entry; it has then read the given number of bytes. Where the error is in these bytes, not at their end, other bytes may follow.
func checkFails(t *testing.T, stream []byte, at int, err api.Errno, after int) {
	t.Helper()
	for i, before := range []api.Entry{{}, {Kind: api.Dir, Path: "d"}, {Kind: api.Dir, Path: long}} {
		var all []byte
		if i > 0 {
			all = encode(before)
		}
		start := len(all)
		all = append(all, stream...)
		if at < after {
			all = append(all, bytes.Repeat([]byte("n"), 600*i)...)
		}
		r := newReader(all, api.Script{Chunks: splits[(len(stream)+i)%len(splits)], FailAt: -1})
		if i > 0 {
			checkDecode(t, r, before, 0, api.OK, start)
		}
		checkDecode(t, r, api.Entry{}, start+at, err, start+after)
	}
}

// The chapter's examples.
func TestExamples(t *testing.T) {
	short := api.Entry{Kind: api.File, Path: "a", Mode: 420, Size: 3}
	b := header(ustar.Header{Type: '0', Name: "a", Mode: 420, Size: 3})
	checkEncode(t, short, b, api.OK)
	checkDecode(t, newReader(b, never), short, 0, api.OK, 512)
	path := x(300)
	file := api.Entry{Kind: api.File, Path: path, Mode: 420, Size: 3}
	b = slices.Concat(
		header(ustar.Header{Type: 'x', Name: "pax", Size: 310}),
		[]byte("310 path="+path+"\n"), make([]byte, 202),
		header(ustar.Header{Type: '0', Mode: 420, Size: 3}))
	if len(b) != 3*512 {
		t.Errorf("the encoding has %d bytes", len(b))
	}
	checkEncode(t, file, b, api.OK)
	checkDecode(t, newReader(b, never), file, 0, api.OK, 1536)
}

// P12.1
func TestIsZero(t *testing.T) {
	for n := range 1100 {
		if b := make([]byte, n); !entry.IsZero(b) {
			t.Errorf("%d zero bytes are not zero", n)
		}
	}
	if !entry.IsZero(nil) {
		t.Error("nil is not zero")
	}
	for i := range 520 {
		for _, value := range []byte{1, 2, '0', 127, 128, 255} {
			b := make([]byte, 520)
			b[i] = value
			if entry.IsZero(b) || entry.IsZero(b[:i+1]) || entry.IsZero(b[i:]) || !entry.IsZero(b[:i]) || !entry.IsZero(b[i+1:]) {
				t.Errorf("wrong for the byte %d at %d", value, i)
			}
		}
	}
	for value := range 256 {
		if entry.IsZero([]byte{byte(value)}) != (value == 0) {
			t.Errorf("wrong for one byte %d", value)
		}
	}
}

// P12.1: the encodings of entries without records, byte for byte.
func TestEncodeWithoutRecords(t *testing.T) {
	for _, c := range []struct {
		e api.Entry
		h ustar.Header
	}{
		{api.Entry{Kind: api.Dir, Path: "d", Mode: 0o755}, ustar.Header{Type: '5', Name: "d", Mode: 0o755}},
		{api.Entry{Kind: api.File, Path: "a/f", Size: maxOctal}, ustar.Header{Type: '0', Name: "a/f", Size: maxOctal}},
		{api.Entry{Kind: api.File, Path: x(99) + "/" + x(60)}, ustar.Header{Type: '0', Prefix: x(99), Name: x(60)}},
		{api.Entry{Kind: api.Symlink, Path: "s", Target: x(100)}, ustar.Header{Type: '2', Name: "s", Linkname: x(100)}},
		{api.Entry{Kind: api.Hardlink, Path: "h", Target: "f", Mode: 1}, ustar.Header{Type: '1', Name: "h", Linkname: "f", Mode: 1}},
	} {
		checkEncode(t, c.e, header(c.h), api.OK)
	}
}

// P12.1: the encodings of entries with records, byte for byte; the records are in the order of their keys.
func TestEncodeWithRecords(t *testing.T) {
	for _, c := range []struct {
		e       api.Entry
		records string
		h       ustar.Header
	}{
		{api.Entry{Kind: api.Dir, Path: long, Mode: 0o755}, "111 path=" + long + "\n", ustar.Header{Type: '5', Mode: 0o755}},
		{api.Entry{Kind: api.File, Path: "f", Size: 8589934592}, "19 size=8589934592\n", ustar.Header{Type: '0', Name: "f"}},
		{api.Entry{Kind: api.File, Path: long, Mode: 7, Size: maxSize}, "111 path=" + long + "\n22 size=1099511627776\n", ustar.Header{Type: '0', Mode: 7}},
		{api.Entry{Kind: api.Symlink, Path: "s", Target: long}, "115 linkpath=" + long + "\n", ustar.Header{Type: '2', Name: "s"}},
		{api.Entry{Kind: api.Hardlink, Path: long, Target: long, Mode: 1}, "115 linkpath=" + long + "\n111 path=" + long + "\n", ustar.Header{Type: '1', Mode: 1}},
	} {
		checkEncode(t, c.e, append(extended(c.records), header(c.h)...), api.OK)
	}
}

// P12.1: records that end before, at and after a block boundary.
func TestEncodedLength(t *testing.T) {
	for _, c := range []struct{ path, size, blocks int }{{501, 511, 3}, {502, 512, 3}, {503, 513, 4}, {1012, 1023, 4}, {1013, 1024, 4}, {1014, 1025, 5}, {65536, 65548, 131}} {
		e := api.Entry{Kind: api.Dir, Path: x(c.path)}
		b, err := entry.Encode(e)
		if err != api.OK || len(b) != c.blocks*512 {
			t.Errorf("a path of %d bytes: %d bytes, %v; want %d blocks", c.path, len(b), err, c.blocks)
			continue
		}
		if h, _ := ustar.Decode(b[:512]); h.Size != int64(c.size) {
			t.Errorf("a path of %d bytes: the records have %d bytes; want %d", c.path, h.Size, c.size)
		}
		checkEncode(t, e, encode(e), api.OK)
	}
}

// P12.1: the error of an invalid entry is that of fit.Check, and there are no bytes.
func TestEncodeOfInvalidEntries(t *testing.T) {
	for _, c := range []struct {
		e    api.Entry
		want api.Errno
	}{
		{api.Entry{}, api.ErrSyntax},
		{api.Entry{Kind: 4, Path: "a"}, api.ErrKind},
		{api.Entry{Kind: -1, Path: long}, api.ErrKind},
		{api.Entry{Kind: math.MaxInt, Path: x(65537), Mode: -1}, api.ErrKind},
		{api.Entry{Kind: api.Dir, Path: x(65537), Mode: -1}, api.ErrTooLong},
		{api.Entry{Kind: api.Dir, Path: "/a", Mode: -1}, api.ErrSyntax},
		{api.Entry{Kind: api.File, Path: long + "/", Size: -1}, api.ErrSyntax},
		{api.Entry{Kind: api.File, Path: "a", Mode: 4096, Size: -1}, api.ErrMode},
		{api.Entry{Kind: api.Symlink, Path: long, Mode: 1, Target: long}, api.ErrMode},
		{api.Entry{Kind: api.Symlink, Path: "a"}, api.ErrSyntax},
		{api.Entry{Kind: api.Symlink, Path: "a", Target: x(65537)}, api.ErrTooLong},
		{api.Entry{Kind: api.Symlink, Path: "a", Target: long + "\x00"}, api.ErrSyntax},
		{api.Entry{Kind: api.Hardlink, Path: "a", Target: "../" + long}, api.ErrSyntax},
		{api.Entry{Kind: api.File, Path: "a", Target: "t"}, api.ErrArg},
		{api.Entry{Kind: api.Dir, Path: long, Target: long}, api.ErrArg},
		{api.Entry{Kind: api.File, Path: "a", Size: -1}, api.ErrRange},
		{api.Entry{Kind: api.File, Path: long, Size: maxSize + 1}, api.ErrRange},
		{api.Entry{Kind: api.Dir, Path: "a", Size: 1}, api.ErrArg},
		{api.Entry{Kind: api.Hardlink, Path: "a", Target: "b", Size: maxOctal + 1}, api.ErrArg},
	} {
		checkEncode(t, c.e, nil, c.want)
		if err := fit.Check(c.e); err != c.want {
			t.Errorf("Check(%s) = %v; want %v", text(c.e), err, c.want)
		}
	}
}

// P12.1: the encoding is well-formed for another reader of the format.
func TestEncodeIsReadByTar(t *testing.T) {
	for _, e := range entries() {
		b, err := entry.Encode(e)
		if err != api.OK {
			t.Fatalf("Encode(%s) = %v", text(e), err)
		}
		h, tarErr := tar.NewReader(bytes.NewReader(b)).Next()
		if tarErr != nil {
			t.Fatalf("tar cannot read %s: %v", text(e), tarErr)
		}
		got := api.Entry{Kind: strings.IndexByte("5021", h.Typeflag), Path: h.Name, Mode: int(h.Mode), Target: h.Linkname, Size: h.Size}
		if got != e {
			t.Errorf("tar reads %s; want %s", text(got), text(e))
		}
	}
}

// P12.4 and P12.5: the entry comes back, with the offset of its first block, however the stream is split, whatever precedes it and follows it; no further block is read.
func TestDecodeOfEncode(t *testing.T) {
	for i, e := range entries() {
		b := encode(e)
		checkEncode(t, e, b, api.OK)
		for j, rest := range []int{0, 1, 511, 512, 1000} {
			script := api.Script{Chunks: splits[(i+j)%len(splits)], FailAt: -1}
			checkDecode(t, newReader(append(slices.Clone(b), bytes.Repeat([]byte("n"), rest)...), script), e, 0, api.OK, len(b))
		}
		// The source fails only where the next block begins.
		checkDecode(t, newReader(b, api.Script{FailAt: int64(len(b))}), e, 0, api.OK, len(b))
	}
}

// P12.5: one entry after the other.
func TestSequence(t *testing.T) {
	l := entries()
	var stream []byte
	for _, e := range l {
		stream = append(stream, encode(e)...)
	}
	for _, chunks := range splits {
		r := newReader(append(stream, make([]byte, 1024)...), api.Script{Chunks: chunks, FailAt: -1})
		at := 0
		for _, e := range l {
			after := at + len(encode(e))
			checkDecode(t, r, e, at, api.OK, after)
			at = after
		}
		checkDecode(t, r, api.Entry{}, at, api.ErrTrailer, at+512)
		checkDecode(t, r, api.Entry{}, at+512, api.ErrTrailer, at+1024)
		for range 3 {
			checkDecode(t, r, api.Entry{}, at+1024, api.ErrEOF, at+1024)
		}
	}
}

// P12.2
func TestNil(t *testing.T) {
	for range 2 {
		if e, at, err := entry.Decode(nil); e != (api.Entry{}) || at != 0 || err != api.ErrNil {
			t.Errorf("Decode of nil = %v, %d, %v", e, at, err)
		}
	}
}

// P12.2: the source ends, or fails, before the first block or within it; and it remains so.
func TestEndInTheFirstBlock(t *testing.T) {
	before := api.Entry{Kind: api.File, Path: "f"}
	for _, b := range [][]byte{header(lone[0]), pax(111), make([]byte, 512), bytes.Repeat([]byte("n"), 512)} {
		for _, start := range []int{0, 512} {
			stream := append(encode(before)[:start], b...)
			for n := range 513 {
				chunks := splits[n%len(splits)]
				end := start + n
				ends := newReader(stream[:end], api.Script{Chunks: chunks, FailAt: -1})
				fails := newReader(stream, api.Script{Chunks: chunks, FailAt: int64(end)})
				if start > 0 {
					checkDecode(t, ends, before, 0, api.OK, start)
					checkDecode(t, fails, before, 0, api.OK, start)
				}
				if n == 512 {
					continue
				}
				want := api.ErrTruncated
				if n == 0 {
					want = api.ErrEOF
				}
				for range 3 {
					checkDecode(t, ends, api.Entry{}, end, want, end)
					checkDecode(t, fails, api.Entry{}, end, api.ErrIO, end)
				}
			}
		}
	}
}

// P12.2: only a block of zero bytes is a trailer.
func TestTrailer(t *testing.T) {
	checkFails(t, make([]byte, 512), 0, api.ErrTrailer, 512)
	checkFails(t, append(make([]byte, 512), 'x'), 0, api.ErrTrailer, 512)
	checkFails(t, make([]byte, 511), 511, api.ErrTruncated, 511)
	for i := range 512 {
		b := make([]byte, 512)
		b[i] = byte(1 << (i % 8))
		checkFails(t, b, 0, api.ErrChecksum, 512)
	}
}

// invalidBlocks are blocks that ustar.Decode rejects, with its errors.
func invalidBlocks() map[api.Errno][][]byte {
	d, p := header(lone[0]), pax(111)
	wrong := func(b []byte) []byte {
		b = slices.Clone(b)
		b[0]++
		return b
	}
	return map[api.Errno][][]byte{
		api.ErrChecksum: {wrong(d), wrong(p), bytes.Repeat([]byte("n"), 512), wrong(with(d, 156, '9'))},
		api.ErrKind:     {with(d, 156, '9'), with(d, 156, 0), with(d, 156, 'g'), with(p, 156, 'X'), with(p, 156, 'L'), with(with(d, 156, '3'), 511, 1)},
		api.ErrSyntax:   {with(d, 511, 1), with(p, 511, 1), with(d, 257, 'U'), with(d, 106, '8'), with(d, 2, 'x'), with(p, 115, '7'), with(p, 124, '8'), with(d, 136, '1'), with(p, 265, 'r')},
	}
}

// P12.2: an invalid first block; nothing else is read.
func TestInvalidFirstBlock(t *testing.T) {
	for want, blocks := range invalidBlocks() {
		for _, b := range blocks {
			checkFails(t, b, 0, want, 512)
			checkFails(t, slices.Concat(b, padded(line("path", long)), header(joined[0])), 0, want, 512)
			checkDecode(t, newReader(b, api.Script{FailAt: 512}), api.Entry{}, 0, want, 512)
		}
	}
}

// P12.2 and P12.4: a header without records.
func TestLoneHeader(t *testing.T) {
	for _, h := range lone {
		want, err := fit.Merge(h, nil)
		if err != api.OK {
			t.Fatalf("no entry has the header %v", h)
		}
		checkDecode(t, newReader(header(h), never), want, 0, api.OK, 512)
		checkDecode(t, newReader(append(header(h), extended(line("path", long))...), never), want, 0, api.OK, 512)
	}
	for _, h := range slices.Concat(odd, joined) {
		checkFails(t, header(h), 0, api.ErrSyntax, 512)
		checkDecode(t, newReader(header(h), api.Script{FailAt: 512}), api.Entry{}, 0, api.ErrSyntax, 512)
	}
}

// P12.3: another extended header than the one of the encoding; this precedes all errors of what follows it.
func TestInvalidExtendedHeader(t *testing.T) {
	rest := append(padded(line("path", long)), header(joined[0])...)
	for _, h := range []ustar.Header{
		{}, {Name: "pax"}, {Size: 111}, {Name: "Pax", Size: 111}, {Name: "PAX", Size: 111}, {Name: "pa", Size: 111}, {Name: "paxx", Size: 111}, {Name: "pax/", Size: 111}, {Name: "./pax", Size: 111}, {Name: "PaxHeaders.0/x", Size: 111}, {Name: x(100), Size: 111},
		{Name: "pax", Size: 0}, {Name: "pax", Size: maxRecords + 1}, {Name: "pax", Size: maxRecords + 512}, {Name: "pax", Size: 1<<32 + 111}, {Name: "pax", Size: maxOctal},
		{Name: "pax", Size: 111, Mode: 1}, {Name: "pax", Size: 111, Mode: 420}, {Name: "pax", Size: 111, Mode: 4095}, {Name: "pax", Size: 111, Linkname: "t"}, {Name: "pax", Size: 111, Linkname: "pax"}, {Name: "pax", Size: 111, Prefix: "p"}, {Prefix: "pax", Size: 111}, {Linkname: "pax", Size: 111},
	} {
		h.Type = 'x'
		b := header(h)
		for _, stream := range [][]byte{b, append(slices.Clone(b), rest...), append(slices.Clone(b), 'x'), append(slices.Clone(b), make([]byte, 2048)...)} {
			checkFails(t, stream, 0, api.ErrRecord, 512)
			checkDecode(t, newReader(stream, api.Script{FailAt: 512}), api.Entry{}, 0, api.ErrRecord, 512)
		}
	}
	checkDecode(t, newReader(append(pax(111), rest...), never), api.Entry{Kind: api.Dir, Path: long}, 0, api.OK, 1536)
}

// P12.3: the least and the greatest size of the records are permitted, so that the records are read.
func TestSizesOfRecords(t *testing.T) {
	for _, size := range []int{1, 2, 511, 512, 513, maxRecords - 1, maxRecords} {
		b := extended(x(size))
		checkFails(t, b, 512, api.ErrSyntax, len(b))
		checkFails(t, b[:len(b)-1], len(b)-1, api.ErrTruncated, len(b)-1)
	}
}

// P12.3: the source ends, or fails, within the records or their padding, or right after the extended header.
func TestEndInTheRecords(t *testing.T) {
	for _, size := range []int{1, 111, 512, 600} {
		stream := extended(x(size))
		for end := 512; end < len(stream); end++ {
			checkFails(t, stream[:end], end, api.ErrTruncated, end)
			r := newReader(stream, api.Script{Chunks: splits[end%len(splits)], FailAt: int64(end)})
			for range 2 {
				checkDecode(t, r, api.Entry{}, end, api.ErrIO, end)
			}
		}
	}
	// A later call starts anew, and so it finds the end of the stream as P12.2 says.
	r := newReader(pax(111), never)
	checkDecode(t, r, api.Entry{}, 512, api.ErrTruncated, 512)
	checkDecode(t, r, api.Entry{}, 512, api.ErrEOF, 512)
	r = newReader(extended(x(111))[:600], never)
	checkDecode(t, r, api.Entry{}, 600, api.ErrTruncated, 600)
	checkDecode(t, r, api.Entry{}, 600, api.ErrTruncated, 600)
}

// P12.3: the first byte of the padding that is not zero is reported, even if the records are invalid.
func TestPaddingOfRecords(t *testing.T) {
	for _, records := range []string{line("path", long), line("path", x(700)), x(111), "9 path=a\n" + x(600)} {
		end := 512 + len(padded(records))
		for at := 512 + len(records); at < end; at++ {
			stream := append(extended(records), header(joined[0])...)
			stream[at] = byte(1 << (at % 8))
			stream[end-1] |= 1
			checkFails(t, stream, at, api.ErrPadding, end)
			checkFails(t, stream[:end], at, api.ErrPadding, end)
		}
	}
}

// P12.3: the first record that is invalid, and its offset in the stream.
func TestInvalidRecords(t *testing.T) {
	linkpath, path, size := line("linkpath", long), line("path", long), line("size", "8589934592")
	for _, c := range []struct {
		before, rest string
		want         api.Errno
	}{
		{"", "x", api.ErrSyntax}, {"", "9 path=b\x00", api.ErrSyntax}, {"", "09 path=a\n", api.ErrSyntax}, {"", "10 path=a\n", api.ErrSyntax}, {"", "11 path=a\n", api.ErrTruncated}, {"", "9 path=a", api.ErrTruncated},
		{"", line("uid", "0"), api.ErrRecord}, {"", line("mtime", "1"), api.ErrRecord}, {"", line("comment", ""), api.ErrRecord}, {"", line("", "a"), api.ErrRecord},
		{"", line("path", ""), api.ErrSyntax}, {"", line("path", x(65537)), api.ErrTooLong}, {"", line("path", "\x00"), api.ErrSyntax}, {"", line("size", "01"), api.ErrSyntax}, {"", line("size", "1099511627777"), api.ErrRange},
		{path, "x", api.ErrSyntax}, {path, "\x00", api.ErrSyntax}, {path, path, api.ErrOrder}, {path, linkpath, api.ErrOrder}, {size, path, api.ErrOrder}, {linkpath + path, path, api.ErrOrder}, {linkpath + path + size, size, api.ErrOrder}, {linkpath + path, "9 size=1", api.ErrTruncated},
		{linkpath, line("path", ""), api.ErrSyntax}, {linkpath + path, line("uid", "0"), api.ErrRecord}, {line("path", x(600)), line("size", "1099511627777"), api.ErrRange}, {line("linkpath", x(1000)) + line("path", x(1000)), "size", api.ErrSyntax}, {line("linkpath", x(65536)) + line("path", x(65536)), "\n", api.ErrSyntax},
	} {
		all := []string{c.before + c.rest}
		if c.want != api.ErrTruncated {
			// More bytes do not complete the record.
			all = append(all, c.before+c.rest+strings.Repeat("\n", 600))
		}
		for _, records := range all {
			stream := extended(records)
			checkFails(t, stream, 512+len(c.before), c.want, len(stream))
			// The header after the records is not read.
			checkDecode(t, newReader(stream, api.Script{FailAt: int64(len(stream))}), api.Entry{}, 512+len(c.before), c.want, len(stream))
			checkDecode(t, newReader(append(stream, header(joined[0])...), never), api.Entry{}, 512+len(c.before), c.want, len(stream))
		}
	}
}

// P12.3: the source ends, or fails, before the header after the records or within it; both ends are ErrTruncated.
func TestEndInTheLastHeader(t *testing.T) {
	for _, e := range []api.Entry{{Kind: api.Dir, Path: long}, {Kind: api.Hardlink, Path: x(502), Target: "t"}, {Kind: api.Symlink, Path: x(400), Target: x(700)}} {
		stream := encode(e)
		for end := len(stream) - 512; end < len(stream); end++ {
			checkFails(t, stream[:end], end, api.ErrTruncated, end)
			r := newReader(stream, api.Script{Chunks: splits[end%len(splits)], FailAt: int64(end)})
			for range 2 {
				checkDecode(t, r, api.Entry{}, end, api.ErrIO, end)
			}
		}
		r := newReader(stream[:len(stream)-512], never)
		checkDecode(t, r, api.Entry{}, len(stream)-512, api.ErrTruncated, len(stream)-512)
		checkDecode(t, r, api.Entry{}, len(stream)-512, api.ErrEOF, len(stream)-512)
	}
}

// P12.3: an invalid block after the records; zero bytes are no trailer there.
func TestInvalidLastBlock(t *testing.T) {
	for _, records := range []string{line("path", long), line("linkpath", x(900)) + line("path", x(400))} {
		before := extended(records)
		check := func(b []byte, want api.Errno) {
			t.Helper()
			checkFails(t, append(slices.Clone(before), b...), len(before), want, len(before)+512)
		}
		for want, blocks := range invalidBlocks() {
			for _, b := range blocks {
				check(b, want)
			}
		}
		check(make([]byte, 512), api.ErrChecksum)
		// There is no second extended header.
		for _, b := range [][]byte{pax(111), pax(len(records)), header(ustar.Header{Type: 'x'}), header(ustar.Header{Type: 'x', Name: "pax", Size: maxRecords + 1})} {
			check(b, api.ErrRecord)
		}
	}
}

// P12.4: a header that does not belong to the records.
func TestHeaderAfterRecords(t *testing.T) {
	target, path, size := line("linkpath", long), line("path", long), line("size", "8589934592")
	check := func(records string, h ustar.Header, want api.Entry, wantErr api.Errno) {
		t.Helper()
		stream := append(extended(records), header(h)...)
		if wantErr == api.OK {
			checkDecode(t, newReader(stream, never), want, 0, api.OK, len(stream))
			return
		}
		checkFails(t, stream, len(stream)-512, wantErr, len(stream))
	}
	for _, h := range joined {
		want, err := fit.Merge(h, []api.Record{{Key: "path", Value: long}})
		if err != api.OK {
			t.Fatalf("no entry has the header %v and the record path", h)
		}
		check(path, h, want, api.OK)
	}
	for _, h := range slices.Concat(lone, odd) {
		check(path, h, api.Entry{}, api.ErrRecord)
	}
	for _, c := range []struct {
		records string
		h       ustar.Header
	}{
		{line("path", "a"), joined[0]}, {line("path", x(100)), joined[0]}, {line("path", "a/"+x(100)), joined[0]}, {line("path", "/"+long), joined[0]}, {line("path", long+"/.."), joined[0]},
		{target, joined[0]}, {target, lone[0]}, {target, ustar.Header{Type: '2', Name: "s", Linkname: "t"}}, {target, ustar.Header{Type: '2'}}, {line("linkpath", "t"), ustar.Header{Type: '2', Name: "s"}}, {line("linkpath", long+"/"), ustar.Header{Type: '1', Name: "h"}},
		{size, joined[2]}, {size, lone[0]}, {size, ustar.Header{Type: '0', Name: "f", Size: 1}}, {size, ustar.Header{Type: '2', Name: "s", Linkname: "t"}}, {line("size", "8589934591"), ustar.Header{Type: '0', Name: "f"}}, {line("size", "0"), ustar.Header{Type: '0', Name: "f"}},
		{target + path, joined[0]}, {target + path, joined[5]}, {path + size, lone[3]}, {path + size, joined[0]}, {target + path + size, joined[2]}, {target + path + size, ustar.Header{Type: '1'}},
	} {
		check(c.records, c.h, api.Entry{}, api.ErrRecord)
	}
	check(target+path, ustar.Header{Type: '2'}, api.Entry{Kind: api.Symlink, Path: long, Target: long}, api.OK)
	check(line("linkpath", long+"/"), ustar.Header{Type: '2', Name: "s"}, api.Entry{Kind: api.Symlink, Path: "s", Target: long + "/"}, api.OK)
	check(path+size, ustar.Header{Type: '0', Mode: 420}, api.Entry{Kind: api.File, Path: long, Mode: 420, Size: 8589934592}, api.OK)
}

// result is what a call of Decode returns, and where the reader is after it.
type result struct {
	e     api.Entry
	at    int
	err   api.Errno
	after int
}

// expected is P12.2 to P12.4, for a reader at a block boundary of a stream that ends, or fails, with the given bytes.
func expected(stream []byte, fails bool, start int) result {
	// enough reports whether the stream has bytes up to end, or else the result when it has not.
	enough := func(end int) (result, bool) {
		err := api.ErrTruncated
		if fails {
			err = api.ErrIO
		}
		return result{at: len(stream), err: err, after: len(stream)}, end <= len(stream)
	}
	if start == len(stream) && !fails {
		return result{at: start, err: api.ErrEOF, after: start}
	}
	if res, ok := enough(start + 512); !ok {
		return res
	}
	last := start
	h, err := ustar.Decode(stream[start : start+512])
	if string(stream[start:start+512]) == strings.Repeat("\x00", 512) {
		err = api.ErrTrailer
	}
	if err != api.OK {
		return result{at: start, err: err, after: start + 512}
	}
	var records []api.Record
	if h.Type == 'x' {
		if h.Name != "pax" || h.Size < 1 || h.Size > maxRecords || h.Prefix != "" || h.Linkname != "" || h.Mode != 0 {
			return result{at: start, err: api.ErrRecord, after: start + 512}
		}
		end := start + 512 + int(h.Size)
		last = (end + 511) / 512 * 512
		if res, ok := enough(last); !ok {
			return res
		}
		for i := end; i < last; i++ {
			if stream[i] != 0 {
				return result{at: i, err: api.ErrPadding, after: last}
			}
		}
		var i int
		if records, i, err = paxrec.Parse(stream[start+512 : end]); err != api.OK {
			return result{at: start + 512 + i, err: err, after: last}
		}
		if res, ok := enough(last + 512); !ok {
			return res
		}
		if h, err = ustar.Decode(stream[last : last+512]); err != api.OK {
			return result{at: last, err: err, after: last + 512}
		}
	}
	e, err := fit.Merge(h, records)
	if err != api.OK {
		return result{at: last, err: err, after: last + 512}
	}
	return result{e, start, api.OK, last + 512}
}

// randomStream joins parts of encodings that often belong together.
func randomStream(random *rand.Rand) []byte {
	values := []string{line("linkpath", long), line("path", long), line("path", x(501)), line("path", x(502)), line("path", x(503)), line("size", "8589934592"), line("path", "a"), line("uid", "0"), "x"}
	one := func(l []ustar.Header) []byte { return header(l[random.Intn(len(l))]) }
	var stream []byte
	for range 1 + random.Intn(3) {
		switch n := random.Intn(12); {
		case n < 2:
			stream = append(stream, one(lone)...)
		case n == 2:
			stream = append(stream, one(odd)...)
		case n == 3:
			stream = append(stream, make([]byte, 512)...)
		default:
			records := values[random.Intn(len(values))]
			if random.Intn(3) == 0 {
				records += values[random.Intn(len(values))]
			}
			first := pax(len(records))
			if random.Intn(6) == 0 {
				first = header(ustar.Header{Type: 'x', Name: "pax", Size: int64(random.Intn(600)), Mode: random.Intn(5) / 4})
			}
			stream = slices.Concat(stream, first, padded(records), one(slices.Concat(joined, joined, joined, lone)))
		}
	}
	return stream
}

// P12.2 to P12.5: random streams, in which few bytes are changed.
func TestAgainstTheChapter(t *testing.T) {
	random := rand.New(rand.NewSource(12))
	count := map[api.Errno]int{}
	for range 60000 {
		stream := randomStream(random)
		if random.Intn(3) == 0 {
			at := random.Intn(len(stream))
			stream[at] = "\x00\n0189x=apath"[random.Intn(13)]
			if b := stream[at/512*512:][:512]; random.Intn(2) == 0 {
				copy(b, with(b, 511, b[511]))
			}
		}
		script := api.Script{Chunks: splits[random.Intn(len(splits))], FailAt: -1}
		delivered, fails := stream, false
		switch random.Intn(4) {
		case 0:
			stream = stream[:random.Intn(len(stream)+1)]
			delivered = stream
		case 1:
			script.FailAt, fails = int64(random.Intn(len(stream)+1)), true
			delivered = stream[:script.FailAt]
		}
		r := newReader(stream, script)
		for r.Offset()%512 == 0 {
			start := int(r.Offset())
			want := expected(delivered, fails, start)
			e, at, err := entry.Decode(r)
			if got := (result{e, int(at), err, int(r.Offset())}); got != want {
				t.Fatalf("a stream of %d bytes (failing: %v) from %d on: %s; want %s", len(delivered), fails, start, text(got), text(want))
			}
			count[err]++
			if err == api.OK {
				checkEncode(t, e, stream[start:r.Offset()], api.OK)
			}
			if err == api.ErrEOF || err == api.ErrTruncated || err == api.ErrIO {
				break
			}
		}
	}
	for _, err := range []api.Errno{api.OK, api.ErrEOF, api.ErrTruncated, api.ErrSyntax, api.ErrChecksum, api.ErrPadding, api.ErrIO, api.ErrOrder, api.ErrRecord, api.ErrTrailer} {
		if count[err] < 200 {
			t.Errorf("only %d results were %v", count[err], err)
		}
	}
}

// P12.5: every byte of an encoding is changed, with and without the right checksum; whatever is accepted is the encoding of its entry.
func TestChangedBytes(t *testing.T) {
	var every []byte
	for value := range 256 {
		every = append(every, byte(value))
	}
	some := []byte("\x00\n /=0123456789psx\xff")
	for _, c := range []struct {
		e      api.Entry
		values []byte
	}{
		{api.Entry{Kind: api.File, Path: "a", Mode: 420, Size: 3}, every},
		{api.Entry{Kind: api.Symlink, Path: x(101), Target: x(101)}, some},
		{api.Entry{Kind: api.File, Path: "f", Size: maxOctal + 1}, some},
	} {
		encoded := encode(c.e)
		accepted := 0
		for at := range encoded {
			for _, value := range c.values {
				b := slices.Clone(encoded)
				b[at] = value
				sealed := slices.Clone(b)
				part := sealed[at/512*512:][:512]
				copy(part, with(part, 511, part[511]))
				for _, other := range [][]byte{b, sealed} {
					if isEncoding(t, other) && !bytes.Equal(other, encoded) {
						accepted++
					}
				}
			}
		}
		if accepted < 50 {
			t.Errorf("%s: only %d other streams were accepted", text(c.e), accepted)
		}
	}
}

// isEncoding reports whether Decode accepts a stream; then the blocks that it has read must be the encoding of the entry.
func isEncoding(t *testing.T, b []byte) bool {
	t.Helper()
	r := newReader(b, never)
	e, at, err := entry.Decode(r)
	if err != api.OK {
		return false
	}
	if at != 0 {
		t.Fatalf("the offset of the entry is %d", at)
	}
	checkEncode(t, e, b[:r.Offset()], api.OK)
	return true
}

// P12.5: no proper prefix of an encoding is accepted, and different entries have different encodings, none of which begins another one.
func TestEncodingsAreDistinct(t *testing.T) {
	known := map[string]api.Entry{}
	for _, e := range entries() {
		b, _ := entry.Encode(e)
		if other, ok := known[string(b)]; ok && other != e {
			t.Fatalf("%s and %s have the same encoding", text(e), text(other))
		}
		known[string(b)] = e
		for end := 0; end < len(b); end += 512 {
			if _, ok := known[string(b[:end])]; ok {
				t.Fatalf("the encoding of %s begins with another one", text(e))
			}
		}
	}
	if len(known) < 400 {
		t.Errorf("only %d encodings", len(known))
	}
}

// Rule 4: an encoding shares memory with nothing.
func TestEncodingsAreNewMemory(t *testing.T) {
	for _, e := range entries() {
		first, _ := entry.Encode(e)
		second, _ := entry.Encode(e)
		copy(first[:cap(first)], bytes.Repeat([]byte("y"), cap(first)))
		if !bytes.Equal(second, encode(e)) {
			t.Fatalf("%s: an encoding shares memory with another one", text(e))
		}
		checkEncode(t, e, encode(e), api.OK)
	}
	stream := encode(api.Entry{Kind: api.Dir, Path: long})
	before := slices.Clone(stream)
	entry.IsZero(stream)
	entry.Decode(newReader(stream, never))
	if !bytes.Equal(stream, before) {
		t.Error("the stream was modified")
	}
}

// P2: readers of different streams do not influence each other.
func TestIndependence(t *testing.T) {
	e := api.Entry{Kind: api.Dir, Path: long}
	b := encode(e)
	one, two := newReader(b, api.Script{FailAt: 700}), newReader(append(b, b...), never)
	checkDecode(t, one, api.Entry{}, 700, api.ErrIO, 700)
	checkDecode(t, two, e, 0, api.OK, 1536)
	checkDecode(t, one, api.Entry{}, 700, api.ErrIO, 700)
	checkDecode(t, two, e, 1536, api.OK, 3072)
}

// P12.2: the offsets are those of the reader, wherever its source was.
func TestReaderOfAPartlyReadSource(t *testing.T) {
	e := api.Entry{Kind: api.Dir, Path: long}
	s := source.New(slices.Concat([]byte("abc"), encode(e), header(odd[0])), never)
	s.Read(3)
	r := block.NewReader(s)
	checkDecode(t, r, e, 0, api.OK, 1536)
	checkDecode(t, r, api.Entry{}, 1536, api.ErrSyntax, 2048)
}

// P1: no call panics, whatever its arguments.
func TestNoPanic(t *testing.T) {
	texts := []string{"", "\x00", "\xff", "/", "a", long, strings.Repeat("/", 1000), x(70000)}
	for _, kind := range []int{0, 1, 2, 3, 4, -1, 'x', math.MinInt, math.MaxInt} {
		for i, s := range texts {
			for _, n := range []int64{math.MinInt64, -1, 0, 1, maxOctal + 1, maxSize, math.MaxInt64} {
				e := api.Entry{Kind: kind, Path: s, Mode: int(n), Target: texts[(i+3)%len(texts)], Size: n}
				b, err := entry.Encode(e)
				if err != fit.Check(e) || (err == api.OK) != (len(b) > 0) {
					t.Errorf("Encode(%s) = %d bytes, %v", text(e), len(b), err)
				}
				entry.IsZero(b)
				entry.IsZero([]byte(s))
			}
		}
	}
	for _, at := range []int64{math.MinInt64, -1, 0, 1, 511, 512, 513, 1023, 1024, math.MaxInt64} {
		for _, chunks := range splits {
			for _, b := range [][]byte{nil, {0}, make([]byte, 1300), bytes.Repeat([]byte("9 "), 700), extended(x(maxRecords)), encode(api.Entry{Kind: api.Dir, Path: long})} {
				r := newReader(b, api.Script{Chunks: chunks, FailAt: at})
				for range 5 {
					entry.Decode(r)
				}
			}
		}
	}
}
