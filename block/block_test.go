package block_test

import (
	"bytes"
	"math"
	"slices"
	"strings"
	"testing"

	"paxtar/api"
	"paxtar/block"
	"paxtar/sink"
	"paxtar/source"
)

// never is a script without chunk sizes and without a failure.
var never = api.Script{FailAt: -1}

// splits are chunk sizes around the size of a block, and others.
var splits = [][]int{nil, {}, {1}, {0, 2}, {7, 100}, {511}, {512}, {513}, {511, 1}, {300, -1, 1000}, {1024}, {512, 1, 511}, {math.MaxInt, math.MinInt}}

// varied returns n bytes of every value, in an order without a short period.
func varied(n int) []byte {
	b := make([]byte, n)
	for i := range b {
		b[i] = byte(i*7 + i/256)
	}
	return b
}

func newReader(b []byte, script api.Script) *block.Reader {
	return block.NewReader(source.New(b, script))
}

func checkNext(t *testing.T, r *block.Reader, want []byte, wantErr api.Errno, offset int64) {
	t.Helper()
	b, err := r.Next()
	if !bytes.Equal(b, want) || err != wantErr || r.Offset() != offset {
		t.Errorf("Next = %d bytes %.20q, %v, the offset is %d; want %d bytes %.20q, %v, %d", len(b), b, err, r.Offset(), len(want), want, wantErr, offset)
	}
}

// checkReader reads to the end and beyond it: the blocks are those of the given bytes, and then the error comes, always the same one.
func checkReader(t *testing.T, r *block.Reader, want []byte, wantErr api.Errno) {
	t.Helper()
	for i := range len(want) / 512 {
		checkNext(t, r, want[512*i:][:512], api.OK, int64(512*i+512))
	}
	for range 4 {
		checkNext(t, r, nil, wantErr, int64(len(want)))
	}
}

// The chapter's examples.
func TestExamples(t *testing.T) {
	data := varied(600)
	r := newReader(data, never)
	checkNext(t, r, data[:512], api.OK, 512)
	checkNext(t, r, nil, api.ErrTruncated, 600)
	s := sink.New(never)
	w := block.NewWriter(s)
	check(t, w.Write([]byte("abc")), api.OK)
	check(t, w.Pad(), api.OK)
	checkWritten(t, w, s, append([]byte("abc"), make([]byte, 509)...))
}

// P6.1: at the end the source is either between two blocks or within one.
func TestEndOfTheSource(t *testing.T) {
	for _, n := range []int{0, 1, 2, 255, 511, 512, 513, 600, 1023, 1024, 1025, 1535, 1536, 1537, 5120, 5121} {
		want := api.ErrTruncated
		if n%512 == 0 {
			want = api.ErrEOF
		}
		for _, chunks := range splits {
			for _, at := range []int64{math.MinInt64, -512, -1, int64(n) + 1, math.MaxInt64} {
				checkReader(t, newReader(varied(n), api.Script{Chunks: chunks, FailAt: at}), varied(n), want)
			}
		}
	}
}

// P6.1: a failure is ErrIO, between two blocks and within one, also where the source ends.
func TestFailureOfTheSource(t *testing.T) {
	data := varied(1024)
	for at := range len(data) + 1 {
		for _, chunks := range splits {
			checkReader(t, newReader(data, api.Script{Chunks: chunks, FailAt: int64(at)}), data[:at], api.ErrIO)
		}
	}
	for _, n := range []int{0, 1, 600, 512} {
		checkReader(t, newReader(data[:n], api.Script{FailAt: int64(n)}), data[:n], api.ErrIO)
	}
}

// P6.1: after an error the source is not read any more, and before it never beyond the block.
func TestBytesTakenFromTheSource(t *testing.T) {
	for _, chunks := range splits {
		s := source.New(varied(1500), api.Script{Chunks: chunks, FailAt: -1})
		r := block.NewReader(s)
		for _, want := range []int64{0, 512, 1024, 1500, 1500} {
			if s.Offset() != want || r.Offset() != want {
				t.Errorf("chunks %v: the source is at %d and the reader at %d; want %d", chunks, s.Offset(), r.Offset(), want)
			}
			r.Next()
		}
	}
}

// P6.1: Next asks for the bytes that it lacks, and so needs as few reads as the chunk sizes allow.
func TestReadsOfABlock(t *testing.T) {
	for _, c := range []struct {
		chunks []int
		want   []int
	}{{nil, []int{1, 2, 3}}, {[]int{512}, []int{1, 2, 3}}, {[]int{513}, []int{1, 2, 3}}, {[]int{511}, []int{2, 4, 6}}, {[]int{1}, []int{512, 1024, 1536}}, {[]int{500, 20, 512}, []int{2, 3, 5}}} {
		s := source.New(varied(1536), api.Script{Chunks: c.chunks, FailAt: -1})
		r := block.NewReader(s)
		for _, want := range c.want {
			if _, err := r.Next(); err != api.OK || s.Reads() != want {
				t.Errorf("chunks %v: %v after %d reads; want %d", c.chunks, err, s.Reads(), want)
			}
		}
	}
}

// P6.1: the offset is that of the reader, wherever the source was.
func TestReaderOfAPartlyReadSource(t *testing.T) {
	data := varied(1200)
	for _, start := range []int{1, 100, 512} {
		s := source.New(data, never)
		s.Read(start)
		checkReader(t, block.NewReader(s), data[start:], api.ErrTruncated)
	}
	failing := source.New(data, api.Script{FailAt: 700})
	failing.Read(100)
	checkReader(t, block.NewReader(failing), data[100:700], api.ErrIO)
	ended := source.New(data, never)
	ended.Read(1200)
	checkReader(t, block.NewReader(ended), nil, api.ErrEOF)
}

// P6.1: two readers of one source share its bytes, but neither the offset nor the error.
func TestTwoReadersOfOneSource(t *testing.T) {
	data := varied(1124)
	s := source.New(data, never)
	one, two := block.NewReader(s), block.NewReader(s)
	checkNext(t, one, data[:512], api.OK, 512)
	checkNext(t, two, data[512:1024], api.OK, 512)
	checkNext(t, one, nil, api.ErrTruncated, 612)
	checkNext(t, two, nil, api.ErrEOF, 512)
	checkNext(t, one, nil, api.ErrTruncated, 612)
}

// P6.1
func TestBlocksAreNewMemory(t *testing.T) {
	data := varied(2048)
	for _, chunks := range splits {
		r := newReader(data, api.Script{Chunks: chunks, FailAt: -1})
		first, _ := r.Next()
		second, _ := r.Next()
		for _, b := range [][]byte{first, second} {
			b = b[:cap(b)]
			for i := range b {
				b[i] = 'x'
			}
			checkNext(t, r, data[r.Offset():][:512], api.OK, r.Offset()+512)
		}
		if !bytes.Equal(data, varied(2048)) {
			t.Errorf("chunks %v: the source's bytes were modified", chunks)
		}
		checkNext(t, r, nil, api.ErrEOF, 2048)
	}
	r := newReader(data, never)
	first, _ := r.Next()
	second, _ := r.Next()
	copy(first, second)
	if !bytes.Equal(second, data[512:1024]) {
		t.Error("a block shares memory with an earlier one")
	}
}

func check(t *testing.T, err, want api.Errno) {
	t.Helper()
	if err != want {
		t.Errorf("the error is %v; want %v", err, want)
	}
}

// checkWritten checks a writer that is the only one of its sink.
func checkWritten(t *testing.T, w *block.Writer, s *sink.Sink, want []byte) {
	t.Helper()
	if b := s.Bytes(); !bytes.Equal(b, want) || w.Offset() != int64(len(want)) {
		t.Errorf("the sink contains %d bytes %.20q and the offset is %d; want %d bytes %.20q", len(b), b, w.Offset(), len(want), want)
	}
}

// P6.2 and P6.3
func TestWrite(t *testing.T) {
	for _, chunks := range splits {
		s := sink.New(api.Script{Chunks: chunks, FailAt: -1})
		w := block.NewWriter(s)
		checkWritten(t, w, s, nil)
		var want []byte
		for _, n := range []int{0, 1, 3, 0, 511, 512, 513, 1, 3000} {
			check(t, w.Write(varied(n)), api.OK)
			want = append(want, varied(n)...)
			checkWritten(t, w, s, want)
		}
	}
}

// P6.2 and P6.3
func TestPad(t *testing.T) {
	for n := range 1600 {
		s := sink.New(api.Script{Chunks: splits[n%len(splits)], FailAt: -1})
		w := block.NewWriter(s)
		check(t, w.Write(varied(n)), api.OK)
		want := varied(n)
		for len(want)%512 != 0 {
			want = append(want, 0)
		}
		for range 3 {
			check(t, w.Pad(), api.OK)
			checkWritten(t, w, s, want)
		}
	}
}

// P6.2: the padding depends on all bytes before it, not only on those of the last write.
func TestPadAfterSeveralWrites(t *testing.T) {
	s := sink.New(never)
	w := block.NewWriter(s)
	var want []byte
	for _, c := range []struct {
		lengths []int
		padding int
	}{{nil, 0}, {[]int{300, 212}, 0}, {[]int{1, 2, 3}, 506}, {[]int{500, 500}, 24}, {[]int{511, 0, 1}, 0}, {[]int{511, 0, 2}, 511}, {[]int{512, 1}, 511}, {[]int{1, 512, 510}, 1}} {
		for _, n := range c.lengths {
			check(t, w.Write(varied(n)), api.OK)
			want = append(want, varied(n)...)
		}
		check(t, w.Pad(), api.OK)
		want = append(want, make([]byte, c.padding)...)
		checkWritten(t, w, s, want)
	}
}

// P6.2 and P6.3
func TestZeros(t *testing.T) {
	for _, n := range []int{0, 1, 2, 3, 7, 511, 512, 513, 1023, 1024} {
		for _, chunks := range [][]int{nil, {512}, {1000, 0}, {math.MaxInt}} {
			s := sink.New(api.Script{Chunks: chunks, FailAt: -1})
			w := block.NewWriter(s)
			check(t, w.Zeros(n), api.OK)
			checkWritten(t, w, s, make([]byte, 512*n))
			// Zeros does not pad.
			check(t, w.Write([]byte("abc")), api.OK)
			check(t, w.Zeros(n), api.OK)
			checkWritten(t, w, s, slices.Concat(make([]byte, 512*n), []byte("abc"), make([]byte, 512*n)))
		}
	}
}

// P6.2: an invalid number has no effect, neither on the stream nor on later calls.
func TestInvalidZeros(t *testing.T) {
	s := sink.New(api.Script{Chunks: []int{2, 1}, FailAt: -1})
	w := block.NewWriter(s)
	for _, n := range []int{-1, -2, -1024, 1025, 1026, 1 << 32, 1<<55 + 1, math.MinInt, math.MaxInt} {
		check(t, w.Zeros(n), api.ErrArg)
	}
	checkWritten(t, w, s, nil)
	check(t, w.Write([]byte("abc")), api.OK)
	check(t, w.Zeros(1025), api.ErrArg)
	check(t, w.Pad(), api.OK)
	check(t, w.Zeros(-1), api.ErrArg)
	check(t, w.Zeros(1), api.OK)
	checkWritten(t, w, s, append([]byte("abc"), make([]byte, 1021)...))
}

// P6.2 and P6.3: the bytes up to the failure have been written, and then every call fails, also one that has nothing to write.
func TestFailureOfTheSink(t *testing.T) {
	all := slices.Concat([]byte("abc"), make([]byte, 1021), varied(512), varied(513), make([]byte, 511))
	for at := range len(all) + 1 {
		s := sink.New(api.Script{Chunks: splits[at%len(splits)], FailAt: int64(at)})
		w := block.NewWriter(s)
		for _, call := range []struct {
			end int
			do  func() api.Errno
		}{
			{3, func() api.Errno { return w.Write([]byte("abc")) }},
			{512, w.Pad},
			{1024, func() api.Errno { return w.Zeros(1) }},
			{1024, w.Pad},
			{1024, func() api.Errno { return w.Zeros(0) }},
			{1536, func() api.Errno { return w.Write(varied(512)) }},
			{1536, func() api.Errno { return w.Write(nil) }},
			{2049, func() api.Errno { return w.Write(varied(513)) }},
			{2560, w.Pad},
		} {
			want := api.OK
			if call.end > at {
				want = api.ErrIO
			}
			check(t, call.do(), want)
			checkWritten(t, w, s, all[:min(call.end, at)])
		}
		// Where the sink has not failed before, it fails now: all bytes up to the failure have been written.
		check(t, w.Write([]byte("x")), api.ErrIO)
		checkFailed(t, w)
		checkWritten(t, w, s, all[:at])
	}
}

// checkFailed checks a writer whose sink has failed: invalid arguments of Zeros still come first.
func checkFailed(t *testing.T, w *block.Writer) {
	t.Helper()
	for range 2 {
		check(t, w.Write(nil), api.ErrIO)
		check(t, w.Write([]byte{}), api.ErrIO)
		check(t, w.Write([]byte("abc")), api.ErrIO)
		check(t, w.Pad(), api.ErrIO)
		check(t, w.Zeros(0), api.ErrIO)
		check(t, w.Zeros(1), api.ErrIO)
		check(t, w.Zeros(1024), api.ErrIO)
		check(t, w.Zeros(-1), api.ErrArg)
		check(t, w.Zeros(1025), api.ErrArg)
		check(t, w.Zeros(math.MinInt), api.ErrArg)
		check(t, w.Zeros(math.MaxInt), api.ErrArg)
	}
}

// P6.2: each of the methods may be the one that meets the failure.
func TestEveryMethodKeepsItsError(t *testing.T) {
	for _, at := range []int64{0, 1, 511, 512, 700} {
		for _, fail := range []func(w *block.Writer) api.Errno{
			func(w *block.Writer) api.Errno { return w.Write(varied(701)) },
			func(w *block.Writer) api.Errno { return w.Zeros(2) },
			func(w *block.Writer) api.Errno { return w.Zeros(1024) },
		} {
			s := sink.New(api.Script{Chunks: []int{100}, FailAt: at})
			w := block.NewWriter(s)
			check(t, fail(w), api.ErrIO)
			checkFailed(t, w)
			if w.Offset() != at || s.Len() != at {
				t.Errorf("fail at %d: the offset is %d and the sink contains %d bytes", at, w.Offset(), s.Len())
			}
		}
	}
	for _, at := range []int64{1, 2, 511} {
		s := sink.New(api.Script{FailAt: at})
		w := block.NewWriter(s)
		check(t, w.Write([]byte("a")), api.OK)
		check(t, w.Pad(), api.ErrIO)
		checkFailed(t, w)
		checkWritten(t, w, s, append([]byte("a"), make([]byte, at-1)...))
	}
}

// P6.2: calls without bytes do not meet the failure.
func TestEmptyWritesWhereTheSinkFails(t *testing.T) {
	s := sink.New(api.Script{FailAt: 512})
	w := block.NewWriter(s)
	check(t, w.Zeros(1), api.OK)
	for range 3 {
		check(t, w.Write(nil), api.OK)
		check(t, w.Pad(), api.OK)
		check(t, w.Zeros(0), api.OK)
	}
	check(t, w.Write([]byte("x")), api.ErrIO)
	checkFailed(t, w)
	checkWritten(t, w, s, make([]byte, 512))
}

// P6.2 and P6.3: the offset, and thus the padding, counts the writer's own bytes only.
func TestWritersOfOneSink(t *testing.T) {
	s := sink.New(api.Script{Chunks: []int{3}, FailAt: 1034})
	check(t, s.WriteAll([]byte("0123456789")), api.OK)
	one, two := block.NewWriter(s), block.NewWriter(s)
	if one.Offset() != 0 {
		t.Errorf("the offset of a new writer is %d", one.Offset())
	}
	check(t, one.Pad(), api.OK)
	check(t, one.Write([]byte("abc")), api.OK)
	check(t, two.Write([]byte("vwxyz")), api.OK)
	check(t, one.Pad(), api.OK)
	if one.Offset() != 512 || two.Offset() != 5 {
		t.Errorf("the offsets are %d and %d; want 512 and 5", one.Offset(), two.Offset())
	}
	check(t, two.Pad(), api.OK)
	check(t, one.Write([]byte("!")), api.ErrIO)
	checkFailed(t, one)
	// The other writer has not met the failure.
	check(t, two.Pad(), api.OK)
	check(t, two.Zeros(1), api.ErrIO)
	checkFailed(t, two)
	want := slices.Concat([]byte("0123456789abcvwxyz"), make([]byte, 509+507))
	if !bytes.Equal(s.Bytes(), want) || one.Offset() != 512 || two.Offset() != 512 {
		t.Errorf("the sink contains %d bytes %.20q, the offsets are %d and %d", s.Len(), s.Bytes(), one.Offset(), two.Offset())
	}
}

// P6.2 and rule 4: the bytes are neither modified nor kept, and nothing is used beyond their number.
func TestTheArgumentOfWrite(t *testing.T) {
	s := sink.New(api.Script{Chunks: []int{2}, FailAt: 512})
	w := block.NewWriter(s)
	b := []byte("..abc..")
	check(t, w.Write(b[2:5]), api.OK)
	check(t, w.Write(b[:0]), api.OK)
	check(t, w.Pad(), api.OK)
	check(t, w.Write(b), api.ErrIO)
	if string(b) != "..abc.." {
		t.Errorf("the argument became %q", b)
	}
	copy(b, "xxxxxxx")
	checkWritten(t, w, s, append([]byte("abc"), make([]byte, 509)...))
}

// P6.2: the zero bytes stay zero, also if a copy of what was written is modified.
func TestZerosAreZero(t *testing.T) {
	s := sink.New(never)
	w := block.NewWriter(s)
	for range 2 {
		check(t, w.Zeros(2), api.OK)
		check(t, w.Write([]byte("x")), api.OK)
		check(t, w.Pad(), api.OK)
		b := s.Bytes()
		for i := range b {
			b[i] = 'y'
		}
	}
	one := slices.Concat(make([]byte, 1024), []byte("x"), make([]byte, 511))
	checkWritten(t, w, s, slices.Concat(one, one))
}

// P6.4: the sink receives the same bytes, and the blocks of them are the same, however the stream is split.
func TestSplits(t *testing.T) {
	data := varied(4000)
	want := slices.Concat(data, make([]byte, 96+1024))
	for _, out := range splits {
		for _, length := range []int{1, 13, 511, 512, 513, 4000} {
			s := sink.New(api.Script{Chunks: out, FailAt: -1})
			w := block.NewWriter(s)
			for part := range slices.Chunk(data, length) {
				check(t, w.Write(part), api.OK)
			}
			check(t, w.Pad(), api.OK)
			check(t, w.Zeros(2), api.OK)
			checkWritten(t, w, s, want)
			for _, in := range splits {
				checkReader(t, newReader(s.Bytes(), api.Script{Chunks: in, FailAt: -1}), want, api.ErrEOF)
			}
		}
	}
}

// P6.1 and P6.4: many blocks, each of many chunks.
func TestLongStream(t *testing.T) {
	data := varied(3*1048576 + 512)
	for _, chunks := range [][]int{nil, {1}, {1048576}, {1000000, 3}} {
		checkReader(t, newReader(data, api.Script{Chunks: chunks, FailAt: -1}), data, api.ErrEOF)
		s := sink.New(api.Script{Chunks: chunks, FailAt: -1})
		w := block.NewWriter(s)
		check(t, w.Write(data), api.OK)
		checkWritten(t, w, s, data)
	}
}

// P2: readers and writers of different sources and sinks do not influence each other.
func TestIndependence(t *testing.T) {
	data := varied(700)
	script := api.Script{Chunks: []int{300, 1}, FailAt: 600}
	one, two := newReader(data, script), newReader(data, script)
	checkReader(t, one, data[:600], api.ErrIO)
	checkReader(t, two, data[:600], api.ErrIO)
	s1, s2 := sink.New(script), sink.New(script)
	w1, w2 := block.NewWriter(s1), block.NewWriter(s2)
	check(t, w1.Write(data), api.ErrIO)
	checkWritten(t, w2, s2, nil)
	check(t, w2.Write([]byte("abc")), api.OK)
	check(t, w2.Pad(), api.OK)
	checkWritten(t, w2, s2, append([]byte("abc"), make([]byte, 509)...))
	checkWritten(t, w1, s1, data[:600])
}

// The constructors and methods for nil: ErrNil precedes the check of the argument of Zeros.
func TestNil(t *testing.T) {
	r, w := block.NewReader(nil), block.NewWriter(nil)
	if r != nil || w != nil {
		t.Errorf("the constructors return %v and %v", r, w)
	}
	checkReader(t, r, nil, api.ErrNil)
	for _, b := range [][]byte{nil, {}, []byte("abc")} {
		check(t, w.Write(b), api.ErrNil)
	}
	check(t, w.Pad(), api.ErrNil)
	for _, n := range []int{math.MinInt, -1, 0, 1, 1024, 1025, math.MaxInt} {
		check(t, w.Zeros(n), api.ErrNil)
	}
	if w.Offset() != 0 {
		t.Errorf("the offset is %d", w.Offset())
	}
}

// P1: no call panics, whatever its arguments.
func TestNoPanic(t *testing.T) {
	for _, chunks := range splits {
		for _, at := range []int64{math.MinInt64, -1, 0, 1, 511, 512, 513, math.MaxInt64} {
			script := api.Script{Chunks: chunks, FailAt: at}
			r, w := newReader([]byte(strings.Repeat("x", 1030)), script), block.NewWriter(sink.New(script))
			for _, n := range []int{math.MinInt, -1, 0, 1, 2, 1024, 1025, math.MaxInt} {
				r.Next()
				w.Zeros(n)
				w.Write(varied(n & 3))
				w.Pad()
			}
		}
	}
}
