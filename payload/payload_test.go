package payload_test

import (
	"bytes"
	"math"
	"math/rand"
	"runtime"
	"slices"
	"testing"

	"paxtar/api"
	"paxtar/block"
	"paxtar/payload"
	"paxtar/sink"
	"paxtar/source"
)

const maxSize = 1099511627776

// never is a script without chunk sizes and without a failure.
var never = api.Script{FailAt: -1}

// splits are chunk sizes around the size of a block, and others.
var splits = [][]int{nil, {1}, {0, 2}, {7, 100}, {511}, {512}, {513}, {511, 1}, {300, -1, 1000}, {1024}, {math.MaxInt, math.MinInt}}

// lengths are numbers of bytes around the boundaries of blocks, and others.
var lengths = []int{0, 1, 2, 3, 80, 255, 256, 257, 510, 511, 512, 513, 514, 600, 767, 768, 1022, 1023, 1024, 1025, 1535, 1536, 1537, 2048, 5119, 5120, 5121}

var (
	badSizes   = []int64{-1, -2, -511, -512, -513, -maxSize, maxSize + 1, maxSize + 2, maxSize + 512, 1 << 41, 1 << 50, 1<<63 - 512, -1 << 32, math.MinInt32, math.MinInt64, math.MinInt64 + 1, math.MinInt64 + 512, math.MaxInt64 - 1, math.MaxInt64}
	largeSizes = []int64{1 << 20, 1<<31 - 1, 1 << 31, 1<<32 - 1, 1 << 32, 1<<32 + 1, 8589934591, 8589934592, 1 << 39, maxSize - 513, maxSize - 512, maxSize - 511, maxSize - 1, maxSize}
)

// filled returns n bytes, none of which is zero, in an order without a short period.
func filled(n int) []byte {
	b := make([]byte, n)
	for i := range b {
		b[i] = byte(i*7+i/256)%255 + 1
	}
	return b
}

// padded returns the given bytes and as many zero bytes as make whole blocks of them.
func padded(b []byte) []byte {
	b = slices.Clone(b)
	for len(b)%512 != 0 {
		b = append(b, 0)
	}
	return b
}

func newReader(b []byte, script api.Script) *block.Reader {
	return block.NewReader(source.New(b, script))
}

func check(t *testing.T, err, want api.Errno) {
	t.Helper()
	if err != want {
		t.Errorf("the error is %v; want %v", err, want)
	}
}

// checkWritten checks a writer that is the only one of its sink.
func checkWritten(t *testing.T, w *block.Writer, s *sink.Sink, want []byte) {
	t.Helper()
	if b := s.Bytes(); !bytes.Equal(b, want) || w.Offset() != int64(len(want)) {
		t.Errorf("the sink contains %d bytes %.20q and the offset is %d; want %d bytes %.20q", len(b), b, w.Offset(), len(want), want)
	}
}

// checkRead checks the results of one call of Read, and how far it has read.
func checkRead(t *testing.T, r *block.Reader, size int64, want []byte, wantOffset int64, wantErr api.Errno, after int64) {
	t.Helper()
	b, offset, err := payload.Read(r, size)
	if !bytes.Equal(b, want) || offset != wantOffset || err != wantErr || r.Offset() != after {
		t.Errorf("Read of %d = %d bytes %.20q, %d, %v, and then the offset is %d; want %d bytes %.20q, %d, %v, %d", size, len(b), b, offset, err, r.Offset(), len(want), want, wantOffset, wantErr, after)
	}
}

// checkFails checks a call that fails where it stops reading.
func checkFails(t *testing.T, r *block.Reader, size, offset int64, err api.Errno) {
	t.Helper()
	checkRead(t, r, size, nil, offset, err, offset)
}

// The chapter's examples.
func TestExamples(t *testing.T) {
	if n := payload.Blocks(513); n != 2 {
		t.Errorf("513 bytes need %d blocks; want 2", n)
	}
	s := sink.New(never)
	w := block.NewWriter(s)
	check(t, payload.Write(w, filled(513)), api.OK)
	checkWritten(t, w, s, append(filled(513), make([]byte, 511)...))
	checkRead(t, newReader(s.Bytes(), never), 513, filled(513), 1024, api.OK, 1024)
}

// P11.1
func TestBlocks(t *testing.T) {
	for size, want := range map[int64]int64{
		0: 0, 1: 1, 2: 1, 256: 1, 511: 1, 512: 1, 513: 2, 1023: 2, 1024: 2, 1025: 3, 5120: 10, 5121: 11,
		1<<31 - 1: 4194304, 1 << 31: 4194304, 1<<31 + 1: 4194305, 1 << 32: 8388608, 1<<32 + 1: 8388609,
		8589934591: 16777216, 8589934592: 16777216, 8589934593: 16777217,
		maxSize - 512: 2147483647, maxSize - 511: 2147483648, maxSize - 1: 2147483648, maxSize: 2147483648, maxSize + 1: 2147483649,
		math.MaxInt64 - 511: 1<<54 - 1, math.MaxInt64 - 510: 1 << 54, math.MaxInt64 - 1: 1 << 54, math.MaxInt64: 1 << 54,
	} {
		if got := payload.Blocks(size); got != want {
			t.Errorf("%d bytes need %d blocks; want %d", size, got, want)
		}
	}
	for _, size := range []int64{-1, -2, -511, -512, -513, -1024, -maxSize, math.MinInt32, math.MinInt32 - 1, math.MinInt64, math.MinInt64 + 1, math.MinInt64 + 511, math.MinInt64 + 512} {
		if got := payload.Blocks(size); got != 0 {
			t.Errorf("%d bytes need %d blocks; want 0", size, got)
		}
	}
}

// P11.1: the blocks hold the bytes, and one block less does not.
func TestLeastNumberOfBlocks(t *testing.T) {
	sizes := []uint64{}
	for n := range uint64(5000) {
		sizes = append(sizes, n, math.MaxInt64-n)
	}
	for shift := 13; shift < 63; shift++ {
		for n := range uint64(1100) {
			sizes = append(sizes, 1<<shift-550+n)
		}
	}
	random := rand.New(rand.NewSource(11))
	for range 100000 {
		sizes = append(sizes, random.Uint64()>>(1+random.Intn(63)))
	}
	for _, size := range sizes {
		n := uint64(payload.Blocks(int64(size)))
		// The number of bytes is at most 2^63, which only the unsigned type holds.
		if n > 1<<54 || n*512 < size || n > 0 && (n-1)*512 >= size {
			t.Fatalf("%d bytes need %d blocks", size, n)
		}
	}
}

// P11.2
func TestWrite(t *testing.T) {
	for _, chunks := range splits {
		for _, n := range lengths {
			s := sink.New(api.Script{Chunks: chunks, FailAt: -1})
			w := block.NewWriter(s)
			check(t, payload.Write(w, filled(n)), api.OK)
			checkWritten(t, w, s, padded(filled(n)))
		}
	}
}

// P11.2: data of zero bytes is data as well, and data of whole blocks, or none, is not padded.
func TestWriteWithoutPadding(t *testing.T) {
	for n := range 1600 {
		s := sink.New(never)
		w := block.NewWriter(s)
		check(t, payload.Write(w, make([]byte, n)), api.OK)
		checkWritten(t, w, s, make([]byte, (n+511)/512*512))
	}
	for _, n := range []int{0, 512, 1024, 5120} {
		// The sink fails where padding would begin.
		s := sink.New(api.Script{FailAt: int64(n)})
		w := block.NewWriter(s)
		check(t, payload.Write(w, filled(n)), api.OK)
		check(t, payload.Write(w, nil), api.OK)
		check(t, payload.Write(w, []byte{}), api.OK)
		checkWritten(t, w, s, filled(n))
	}
}

// P11.2: one writer, several contents.
func TestSeveralWrites(t *testing.T) {
	for _, chunks := range splits {
		s := sink.New(api.Script{Chunks: chunks, FailAt: -1})
		w := block.NewWriter(s)
		var want []byte
		for _, n := range []int{3, 0, 512, 513, 1, 511, 1536, 0, 700} {
			check(t, payload.Write(w, filled(n)), api.OK)
			want = append(want, padded(filled(n))...)
			checkWritten(t, w, s, want)
		}
	}
}

// P11.2: the padding counts from the writer's offset, not from the sink's.
func TestWriteToAUsedSink(t *testing.T) {
	s := sink.New(never)
	check(t, s.WriteAll([]byte("0123456789")), api.OK)
	w := block.NewWriter(s)
	check(t, payload.Write(w, filled(600)), api.OK)
	want := append([]byte("0123456789"), padded(filled(600))...)
	if !bytes.Equal(s.Bytes(), want) || w.Offset() != 1024 {
		t.Errorf("the sink contains %d bytes and the offset is %d", s.Len(), w.Offset())
	}
}

// P11.2: the sink fails at any byte of the data and of the padding, and then every call fails.
func TestWriteToAFailingSink(t *testing.T) {
	parts := [][]byte{filled(3), filled(0), filled(513), filled(512), filled(1)}
	for at := range 2561 {
		s := sink.New(api.Script{Chunks: splits[at%len(splits)], FailAt: int64(at)})
		w := block.NewWriter(s)
		var want []byte
		for _, part := range parts {
			want = append(want, padded(part)...)
			wantErr := api.OK
			if len(want) > at {
				wantErr = api.ErrIO
			}
			check(t, payload.Write(w, part), wantErr)
			checkWritten(t, w, s, want[:min(len(want), at)])
		}
		check(t, payload.Write(w, []byte("x")), api.ErrIO)
		check(t, payload.Write(w, nil), api.ErrIO)
		checkWritten(t, w, s, want[:at])
	}
}

// P11.2: a writer that has failed before keeps its error, whatever is to be written.
func TestWriteAfterAFailure(t *testing.T) {
	for _, n := range lengths {
		s := sink.New(api.Script{FailAt: 512})
		w := block.NewWriter(s)
		check(t, w.Zeros(2), api.ErrIO)
		for range 2 {
			check(t, payload.Write(w, filled(n)), api.ErrIO)
		}
		checkWritten(t, w, s, make([]byte, 512))
	}
}

// P11.2 and rule 4: the data are neither modified nor kept, and nothing is used beyond their length.
func TestTheArgumentOfWrite(t *testing.T) {
	s := sink.New(api.Script{Chunks: []int{2}, FailAt: 1024})
	w := block.NewWriter(s)
	b := []byte("..abc..")
	check(t, payload.Write(w, b[2:5]), api.OK)
	check(t, payload.Write(w, b[:0]), api.OK)
	check(t, payload.Write(w, b[:2]), api.OK)
	check(t, payload.Write(w, b), api.ErrIO)
	if string(b) != "..abc.." {
		t.Errorf("the argument became %q", b)
	}
	copy(b, "xxxxxxx")
	checkWritten(t, w, s, append(padded([]byte("abc")), padded([]byte(".."))...))
}

// P11.3
func TestRead(t *testing.T) {
	for _, chunks := range splits {
		for _, n := range lengths {
			end := int64(len(padded(filled(n))))
			for _, rest := range []int{0, 1, 511, 512, 1000} {
				stream := append(padded(filled(n)), filled(rest)...)
				r := newReader(stream, api.Script{Chunks: chunks, FailAt: -1})
				checkRead(t, r, int64(n), filled(n), end, api.OK, end)
			}
			// The source fails only where the next block begins.
			r := newReader(append(padded(filled(n)), 'x'), api.Script{Chunks: chunks, FailAt: end})
			checkRead(t, r, int64(n), filled(n), end, api.OK, end)
		}
	}
}

// P11.3: exactly the blocks of the contents are read, so that the next block is the one after them.
func TestBlockAfterTheContents(t *testing.T) {
	for _, n := range lengths {
		r := newReader(append(padded(filled(n)), bytes.Repeat([]byte("n"), 512)...), never)
		payload.Read(r, int64(n))
		b, err := r.Next()
		if string(b) != string(bytes.Repeat([]byte("n"), 512)) || err != api.OK {
			t.Errorf("after %d bytes the next block is %.20q, %v", n, b, err)
		}
	}
}

// P11.3: the first byte of the padding that is not zero is reported, after the last block has been read.
func TestPadding(t *testing.T) {
	for _, n := range []int{1, 2, 80, 256, 511, 513, 600, 1023, 1025, 1535} {
		end := len(padded(filled(n)))
		for at := n; at < end; at++ {
			stream := append(padded(filled(n)), filled(512)...)
			stream[at] = byte(1 << (at % 8))
			checkRead(t, newReader(stream, never), int64(n), nil, int64(at), api.ErrPadding, int64(end))
			// Later bytes do not matter.
			for i := at + 1; i < end; i++ {
				stream[i] = byte(i)
			}
			checkRead(t, newReader(stream, never), int64(n), nil, int64(at), api.ErrPadding, int64(end))
		}
	}
	for value := 1; value < 256; value++ {
		stream := padded(filled(100))
		stream[511] = byte(value)
		checkRead(t, newReader(stream, never), 100, nil, 511, api.ErrPadding, 512)
	}
}

// P11.3: the bytes of the contents may be zero, and those of the next block need not be.
func TestNoPaddingOutsideTheLastBlock(t *testing.T) {
	for _, n := range lengths {
		r := newReader(append(make([]byte, (n+511)/512*512), filled(512)...), never)
		checkRead(t, r, int64(n), make([]byte, n), int64((n+511)/512*512), api.OK, int64((n+511)/512*512))
	}
	// Bytes that are zero before the end do not hide a byte of the padding.
	stream := make([]byte, 1024)
	stream[700], stream[800] = 1, 2
	checkRead(t, newReader(stream, never), 600, nil, 700, api.ErrPadding, 1024)
	checkRead(t, newReader(stream, never), 700, nil, 700, api.ErrPadding, 1024)
	checkRead(t, newReader(stream, never), 701, nil, 800, api.ErrPadding, 1024)
	checkRead(t, newReader(stream, never), 800, nil, 800, api.ErrPadding, 1024)
	checkRead(t, newReader(stream, never), 801, stream[:801], 1024, api.OK, 1024)
}

// P11.3: the source ends between two blocks or within one; both are ErrTruncated, and so is every later call.
func TestTruncation(t *testing.T) {
	for _, n := range []int{1, 511, 512, 513, 1024, 1025, 1536} {
		all := padded(filled(n))
		for end := range all {
			r := newReader(all[:end], api.Script{Chunks: splits[end%len(splits)], FailAt: -1})
			for range 3 {
				checkFails(t, r, int64(n), int64(end), api.ErrTruncated)
			}
		}
	}
	for _, size := range largeSizes {
		for _, end := range []int{0, 1, 511, 512, 513, 5000} {
			checkFails(t, newReader(filled(end), never), size, int64(end), api.ErrTruncated)
		}
	}
}

// P11.3: a failure of the source is ErrIO, in the data and in the padding, also before the first byte of a block.
func TestFailureOfTheSource(t *testing.T) {
	for _, n := range []int{1, 511, 512, 513, 1024, 1025, 1536} {
		all := padded(filled(n))
		for at := range all {
			r := newReader(all, api.Script{Chunks: splits[at%len(splits)], FailAt: int64(at)})
			for range 3 {
				checkFails(t, r, int64(n), int64(at), api.ErrIO)
			}
		}
	}
	for _, size := range largeSizes {
		checkFails(t, newReader(filled(1000), api.Script{FailAt: 1000}), size, 1000, api.ErrIO)
	}
}

// P11.3: an incomplete last block is not searched for padding.
func TestFailureBeforePadding(t *testing.T) {
	for _, n := range []int64{1, 100, 510} {
		for _, end := range []int{1, 101, 511} {
			checkFails(t, newReader(filled(end), never), n, int64(end), api.ErrTruncated)
			checkFails(t, newReader(filled(512), api.Script{FailAt: int64(end)}), n, int64(end), api.ErrIO)
		}
	}
}

// P11.3: no contents need no block, not even one that could be read.
func TestReadNothing(t *testing.T) {
	ended := newReader(nil, never)
	checkRead(t, ended, 0, nil, 0, api.OK, 0)
	ended.Next()
	checkRead(t, ended, 0, nil, 0, api.OK, 0)
	checkFails(t, ended, 1, 0, api.ErrTruncated)
	cut := newReader(filled(600), never)
	checkFails(t, cut, 600, 600, api.ErrTruncated)
	checkRead(t, cut, 0, nil, 600, api.OK, 600)
	failed := newReader(filled(600), api.Script{FailAt: 100})
	checkFails(t, failed, 1, 100, api.ErrIO)
	checkRead(t, failed, 0, nil, 100, api.OK, 100)
	checkFails(t, failed, 1, 100, api.ErrIO)
	atFailure := newReader(filled(600), api.Script{FailAt: 0})
	checkRead(t, atFailure, 0, nil, 0, api.OK, 0)
}

// P11.3: an invalid size comes before every error of the source, and nothing is read.
func TestSizeOutOfRange(t *testing.T) {
	for _, size := range badSizes {
		r := newReader(padded(filled(513)), never)
		checkFails(t, r, size, 0, api.ErrRange)
		checkRead(t, r, 512, filled(512), 512, api.OK, 512)
		checkFails(t, r, size, 512, api.ErrRange)
		r.Next()
		checkFails(t, r, size, 1024, api.ErrRange)
		checkFails(t, r, 1, 1024, api.ErrTruncated)
		checkFails(t, r, size, 1024, api.ErrRange)
		failing := newReader(filled(600), api.Script{FailAt: 550})
		checkFails(t, failing, 600, 550, api.ErrIO)
		checkFails(t, failing, size, 550, api.ErrRange)
	}
}

// P11.3 and P11.2: nil precedes an invalid size.
func TestNil(t *testing.T) {
	for _, size := range slices.Concat(badSizes, largeSizes, []int64{0, 1, 512}) {
		b, offset, err := payload.Read(nil, size)
		if len(b) != 0 || offset != 0 || err != api.ErrNil {
			t.Errorf("Read of %d from nil = %q, %d, %v", size, b, offset, err)
		}
	}
	for _, b := range [][]byte{nil, {}, []byte("abc"), filled(512)} {
		check(t, payload.Write(nil, b), api.ErrNil)
	}
}

// P11.3: the offsets are those of the stream, not of the contents.
func TestReadWithinAStream(t *testing.T) {
	data := slices.Concat(filled(1024), padded(filled(600)), padded(filled(80)))
	r := newReader(data, never)
	r.Next()
	r.Next()
	checkRead(t, r, 600, filled(600), 2048, api.OK, 2048)
	checkRead(t, r, 79, nil, 2048+79, api.ErrPadding, 2560)
	// The wrong padding is not an error of the reader.
	checkRead(t, r, 0, nil, 2560, api.OK, 2560)
	checkFails(t, r, 1, 2560, api.ErrTruncated)
	cut := newReader(data[:1500], never)
	cut.Next()
	checkFails(t, cut, 1024, 1500, api.ErrTruncated)
	failing := newReader(data, api.Script{FailAt: 1100})
	failing.Next()
	checkFails(t, failing, 1024, 1100, api.ErrIO)
}

// P11.3: the offset is the reader's, wherever its source was.
func TestReaderOfAPartlyReadSource(t *testing.T) {
	data := append(filled(10), padded(filled(600))...)
	afterTen := func() *block.Reader {
		s := source.New(data, never)
		s.Read(10)
		return block.NewReader(s)
	}
	checkRead(t, afterTen(), 600, filled(600), 1024, api.OK, 1024)
	checkRead(t, afterTen(), 599, nil, 599, api.ErrPadding, 1024)
	checkFails(t, afterTen(), 1025, 1024, api.ErrTruncated)
}

// result is what a call of Read returns, and where the reader is after it.
type result struct {
	data   string
	offset int
	err    api.Errno
	after  int
}

// expected is P11.3, for a reader at a block boundary of a stream that ends, or fails, with the given bytes.
func expected(stream []byte, fails bool, start, size int) result {
	blocks := 0
	for blocks*512 < size {
		blocks++
	}
	end := start + blocks*512
	if end > len(stream) {
		err := api.ErrTruncated
		if fails {
			err = api.ErrIO
		}
		return result{offset: len(stream), err: err, after: len(stream)}
	}
	for i := start + size; i < end; i++ {
		if stream[i] > 0 {
			return result{offset: i, err: api.ErrPadding, after: end}
		}
	}
	return result{data: string(stream[start : start+size]), offset: end, after: end}
}

// P11.3: random streams with few bytes that are not zero, and all sizes around them.
func TestAgainstTheChapter(t *testing.T) {
	random := rand.New(rand.NewSource(113))
	count := map[api.Errno]int{}
	for range 40000 {
		stream := make([]byte, random.Intn(2200))
		for range random.Intn(4) {
			if len(stream) > 0 {
				stream[random.Intn(len(stream))] = byte(random.Intn(256))
			}
		}
		script := api.Script{Chunks: splits[random.Intn(len(splits))], FailAt: -1}
		fails := random.Intn(3) == 0
		delivered := stream
		if fails {
			at := random.Intn(len(stream) + 1)
			script.FailAt, delivered = int64(at), stream[:at]
		}
		r := newReader(stream, script)
		start := 0
		for range random.Intn(3) {
			if start+512 <= len(delivered) {
				r.Next()
				start += 512
			}
		}
		size := random.Intn(1700)
		want := expected(delivered, fails, start, size)
		data, offset, err := payload.Read(r, int64(size))
		if got := (result{string(data), int(offset), err, int(r.Offset())}); got != want {
			t.Fatalf("a stream of %d bytes (failing: %v) from %d on, size %d: %+v; want %+v", len(delivered), fails, start, size, got, want)
		}
		count[err]++
	}
	for _, err := range []api.Errno{api.OK, api.ErrTruncated, api.ErrIO, api.ErrPadding} {
		if count[err] < 1000 {
			t.Errorf("only %d results were %v", count[err], err)
		}
	}
}

// allocated returns the number of bytes that a function allocates.
func allocated(f func()) uint64 {
	var before, after runtime.MemStats
	runtime.ReadMemStats(&before)
	f()
	runtime.ReadMemStats(&after)
	return after.TotalAlloc - before.TotalAlloc
}

// P11.4: how much is allocated depends on what has been read, not on the size.
func TestAllocation(t *testing.T) {
	for _, size := range largeSizes {
		for _, c := range []struct {
			length int
			failAt int64
		}{{0, -1}, {1, -1}, {512, -1}, {10000, -1}, {100000, -1}, {100000, 0}, {100000, 1000}, {100000, 99999}} {
			r := newReader(filled(c.length), api.Script{FailAt: c.failAt})
			got := allocated(func() {
				if _, _, err := payload.Read(r, size); err == api.OK {
					t.Errorf("Read of %d bytes succeeds with %d bytes", size, c.length)
				}
			})
			// The blocks, the reads of the source and the growing slice each take a small multiple.
			if limit := uint64(10*r.Offset() + 32768); got > limit {
				t.Errorf("Read of %d bytes allocates %d bytes when %d are read", size, got, r.Offset())
			}
		}
	}
}

// P11.3 and P11.4: contents of many blocks.
func TestLongContents(t *testing.T) {
	for _, n := range []int{1 << 20, 1<<20 + 1, 3<<20 - 1, 5000000} {
		data := filled(n)
		end := int64(len(padded(data)))
		for _, chunks := range [][]int{nil, {100}, {1000000, 3}} {
			script := api.Script{Chunks: chunks, FailAt: -1}
			s := sink.New(script)
			check(t, payload.Write(block.NewWriter(s), data), api.OK)
			checkRead(t, newReader(s.Bytes(), script), int64(n), data, end, api.OK, end)
			checkFails(t, newReader(s.Bytes(), script), maxSize, end, api.ErrTruncated)
		}
	}
}

// P11.5: contents that were written one after the other are read one after the other, however the streams are split.
func TestReadOfWrite(t *testing.T) {
	for _, out := range splits {
		s := sink.New(api.Script{Chunks: out, FailAt: -1})
		w := block.NewWriter(s)
		for _, n := range lengths {
			check(t, payload.Write(w, filled(n)), api.OK)
			check(t, payload.Write(w, make([]byte, n)), api.OK)
		}
		for _, in := range splits {
			r := newReader(s.Bytes(), api.Script{Chunks: in, FailAt: -1})
			end := int64(0)
			for _, n := range lengths {
				blocks := int64(n+511) / 512
				checkRead(t, r, int64(n), filled(n), end+512*blocks, api.OK, end+512*blocks)
				end += 1024 * blocks
				checkRead(t, r, int64(n), make([]byte, n), end, api.OK, end)
			}
			if _, err := r.Next(); err != api.ErrEOF || r.Offset() != w.Offset() {
				t.Errorf("after the contents: %v at %d of %d", err, r.Offset(), w.Offset())
			}
		}
	}
}

// P11.5: every number of bytes up to some blocks; Read with a smaller size finds the last byte, and with a greater one the padding as data.
func TestEverySize(t *testing.T) {
	for n := range 1600 {
		s := sink.New(never)
		check(t, payload.Write(block.NewWriter(s), filled(n)), api.OK)
		end := s.Len()
		checkRead(t, newReader(s.Bytes(), never), int64(n), filled(n), end, api.OK, end)
		if n%512 != 0 {
			checkRead(t, newReader(s.Bytes(), never), int64(n+1), append(filled(n), 0), end, api.OK, end)
		}
		if n%512 > 1 {
			checkRead(t, newReader(s.Bytes(), never), int64(n-1), nil, int64(n-1), api.ErrPadding, end)
		}
	}
}

// Rule 4: a result shares memory neither with the source nor with another result.
func TestResultsAreNewMemory(t *testing.T) {
	stream := slices.Concat(padded(filled(600)), padded(filled(512)), padded(filled(700)))
	before := slices.Clone(stream)
	r := newReader(stream, never)
	first, _, _ := payload.Read(r, 600)
	second, _, _ := payload.Read(r, 512)
	for _, b := range [][]byte{first, second} {
		b = b[:cap(b)]
		for i := range b {
			b[i] = 'x'
		}
	}
	checkRead(t, r, 700, filled(700), 2560, api.OK, 2560)
	if !bytes.Equal(stream, before) {
		t.Error("the source's bytes were modified")
	}
	again := newReader(stream, never)
	first, _, _ = payload.Read(again, 600)
	second, _, _ = payload.Read(again, 512)
	copy(first[:cap(first)], bytes.Repeat([]byte("y"), cap(first)))
	if !bytes.Equal(second, filled(512)) {
		t.Error("a result shares memory with an earlier one")
	}
}

// P2: readers and writers of different streams do not influence each other.
func TestIndependence(t *testing.T) {
	stream := padded(filled(600))
	one, two := newReader(stream, never), newReader(stream, never)
	checkRead(t, one, 599, nil, 599, api.ErrPadding, 1024)
	checkRead(t, two, 600, filled(600), 1024, api.OK, 1024)
	s1, s2 := sink.New(api.Script{FailAt: 700}), sink.New(never)
	w1, w2 := block.NewWriter(s1), block.NewWriter(s2)
	check(t, payload.Write(w1, filled(600)), api.ErrIO)
	check(t, payload.Write(w2, filled(600)), api.OK)
	checkWritten(t, w1, s1, stream[:700])
	checkWritten(t, w2, s2, stream)
}

// P1: no call panics, whatever its arguments.
func TestNoPanic(t *testing.T) {
	sizes := slices.Concat(badSizes, largeSizes, []int64{0, 1, 511, 512, 513})
	for _, chunks := range splits {
		for _, at := range []int64{math.MinInt64, -1, 0, 1, 511, 512, 513, math.MaxInt64} {
			script := api.Script{Chunks: chunks, FailAt: at}
			r, w := newReader(filled(1300), script), block.NewWriter(sink.New(script))
			for _, size := range sizes {
				payload.Blocks(size)
				payload.Read(r, size)
				payload.Read(newReader(filled(1300), script), size)
				payload.Write(w, filled(int(size&1023)))
			}
			// Write is not specified for such a writer, but it returns.
			w.Write([]byte("abc"))
			payload.Write(w, filled(600))
		}
	}
}
