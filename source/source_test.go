package source_test

import (
	"bytes"
	"math"
	"slices"
	"strings"
	"testing"

	"paxtar/api"
	"paxtar/source"
)

// A model is a source in the words of the chapter, built without the package under test.
type model struct {
	data   []byte
	script api.Script
	offset int
	reads  int
}

func (m *model) chunk() int {
	if len(m.script.Chunks) == 0 {
		return 1048576
	}
	if size := m.script.Chunks[m.reads%len(m.script.Chunks)]; size >= 1 {
		return size
	}
	return 1
}

func (m *model) read(n int) ([]byte, api.Errno) {
	if n < 1 {
		return nil, api.ErrArg
	}
	if m.script.FailAt >= 0 && int64(m.offset) == m.script.FailAt {
		return nil, api.ErrIO
	}
	if m.offset == len(m.data) {
		return nil, api.ErrEOF
	}
	chunk := m.chunk()
	var b []byte
	for len(b) < n && len(b) < chunk && m.offset < len(m.data) && int64(m.offset) != m.script.FailAt {
		b = append(b, m.data[m.offset])
		m.offset++
	}
	m.reads++
	return b, api.OK
}

// numbered returns n bytes that differ from their neighbors.
func numbered(n int) []byte {
	b := make([]byte, n)
	for i := range b {
		b[i] = byte(i + i/256)
	}
	return b
}

func checkRead(t *testing.T, s *source.Source, n int, want string, wantErr api.Errno) {
	t.Helper()
	b, err := s.Read(n)
	if string(b) != want || err != wantErr {
		t.Errorf("Read(%d) = %.40q, %v; want %.40q, %v", n, b, err, want, wantErr)
	}
}

func checkState(t *testing.T, s *source.Source, offset int64, reads int) {
	t.Helper()
	if s.Offset() != offset || s.Reads() != reads {
		t.Errorf("the offset is %d after %d reads; want %d, %d", s.Offset(), s.Reads(), offset, reads)
	}
}

// checkAgainstModel reads with the given sizes in turn, beyond the end.
func checkAgainstModel(t *testing.T, data []byte, script api.Script, sizes []int) {
	t.Helper()
	s := source.New(data, script)
	m := &model{data: data, script: script}
	for i := range 2*len(data) + 6 {
		n := sizes[i%len(sizes)]
		b, err := s.Read(n)
		want, wantErr := m.read(n)
		if !bytes.Equal(b, want) || err != wantErr || s.Offset() != int64(m.offset) || s.Reads() != m.reads {
			t.Fatalf("%q, %v, sizes %v: read %d is %.40q, %v at %d, %d; want %.40q, %v at %d, %d", data, script, sizes, i, b, err, s.Offset(), s.Reads(), want, wantErr, m.offset, m.reads)
		}
	}
}

// The chapter's example.
func TestExample(t *testing.T) {
	s := source.New([]byte("abc"), api.Script{Chunks: []int{2, 1}, FailAt: -1})
	checkRead(t, s, 100, "ab", api.OK)
	checkRead(t, s, 100, "c", api.OK)
	checkRead(t, s, 100, "", api.ErrEOF)
}

// P4.1
func TestNewSource(t *testing.T) {
	for _, b := range [][]byte{nil, {}, []byte("abc")} {
		for _, at := range []int64{0, 1, -1} {
			s := source.New(b, api.Script{FailAt: at})
			if s == nil {
				t.Fatalf("New(%q, %d) is nil", b, at)
			}
			checkState(t, s, 0, 0)
		}
	}
}

// P4.1: the source works with what its arguments were.
func TestLaterChangesOfTheArguments(t *testing.T) {
	for _, at := range []int64{-1, 6, 7, 100} {
		b := []byte("abcdef")
		script := api.Script{Chunks: []int{2, 1}, FailAt: at}
		s := source.New(b, script)
		copy(b, "......")
		script.Chunks[0], script.Chunks[1] = 5, 5
		script.FailAt = 0
		checkRead(t, s, 9, "ab", api.OK)
		copy(b, "xxxxxx")
		script.Chunks[0], script.Chunks[1] = 6, 6
		checkRead(t, s, 9, "c", api.OK)
		checkRead(t, s, 9, "de", api.OK)
		checkRead(t, s, 9, "f", api.OK)
	}
}

// P4.1
func TestTheArgumentsAreNotModified(t *testing.T) {
	chunks := []int{0, -3, 2, math.MinInt, math.MaxInt}
	for _, at := range []int64{-1, 0, 2, 6, 99} {
		b := []byte("abcdef")
		script := api.Script{Chunks: slices.Clone(chunks), FailAt: at}
		s := source.New(b, script)
		for range 9 {
			s.Read(2)
		}
		if string(b) != "abcdef" || !slices.Equal(script.Chunks, chunks) {
			t.Errorf("the arguments became %q and %v", b, script.Chunks)
		}
	}
}

// P4.1 and rule 4: only the bytes and the chunk sizes up to the length of a slice count.
func TestNothingIsUsedBeyondTheLength(t *testing.T) {
	s := source.New([]byte("..abc..")[2:5], api.Script{Chunks: []int{7, 1, 2, 7}[1:3], FailAt: -1})
	for _, want := range []string{"a", "bc"} {
		checkRead(t, s, 9, want, api.OK)
	}
	checkRead(t, s, 9, "", api.ErrEOF)
	none := source.New([]byte("abc")[:0], api.Script{Chunks: []int{2, 1}[:0], FailAt: 1})
	checkRead(t, none, 9, "", api.ErrEOF)
	full := source.New([]byte("abc"), api.Script{Chunks: []int{2, 1}[:0], FailAt: -1})
	checkRead(t, full, 9, "abc", api.OK)
}

// P4.2
func TestSizeOfARead(t *testing.T) {
	data := strings.Repeat("x", 20)
	for _, c := range []struct {
		n, chunk int
		failAt   int64
		want     int
	}{
		{1, 9, -1, 1}, {8, 9, -1, 8}, {9, 9, -1, 9}, {10, 9, -1, 9}, {math.MaxInt, 9, -1, 9},
		{19, 99, -1, 19}, {20, 99, -1, 20}, {21, 99, -1, 20}, {99, 20, -1, 20}, {99, 21, -1, 20}, {math.MaxInt, math.MaxInt, -1, 20},
		{9, 9, 1, 1}, {9, 9, 8, 8}, {9, 9, 9, 9}, {9, 9, 10, 9}, {99, 99, 19, 19}, {99, 99, 20, 20}, {99, 99, 21, 20}, {99, 99, math.MaxInt64, 20}, {99, 99, math.MinInt64, 20},
		{99, 1, -1, 1}, {99, 0, -1, 1}, {99, -1, -1, 1}, {99, math.MinInt, -1, 1}, {math.MaxInt, math.MinInt, 1, 1},
	} {
		s := source.New([]byte(data), api.Script{Chunks: []int{c.chunk}, FailAt: c.failAt})
		checkRead(t, s, c.n, data[:c.want], api.OK)
		checkState(t, s, int64(c.want), 1)
	}
}

// P4.2: without chunk sizes, each one is 1048576.
func TestDefaultChunk(t *testing.T) {
	const chunk = 1048576
	data := string(numbered(2*chunk + 3))
	for _, chunks := range [][]int{nil, {}} {
		s := source.New([]byte(data), api.Script{Chunks: chunks, FailAt: -1})
		checkRead(t, s, math.MaxInt, data[:chunk], api.OK)
		checkRead(t, s, 1, data[chunk:chunk+1], api.OK)
		checkRead(t, s, chunk+1, data[chunk+1:2*chunk+1], api.OK)
		checkRead(t, s, chunk, data[2*chunk+1:], api.OK)
		checkRead(t, s, chunk, "", api.ErrEOF)
		checkState(t, s, 2*chunk+3, 4)
	}
	large := source.New([]byte(data), api.Script{Chunks: []int{chunk + 2}, FailAt: -1})
	checkRead(t, large, math.MaxInt, data[:chunk+2], api.OK)
}

// P4.2: after the last chunk size the first one follows.
func TestChunkSizesStartAgain(t *testing.T) {
	s := source.New([]byte("abcdefghijklmnop"), api.Script{Chunks: []int{3, 0, 2, -7}, FailAt: -1})
	for _, want := range []string{"abc", "d", "ef", "g", "hij", "k", "lm", "n", "op"} {
		checkRead(t, s, 5, want, api.OK)
	}
	checkRead(t, s, 5, "", api.ErrEOF)
}

// P4.2: a short read uses up its chunk size, and the rest of a chunk size is lost.
func TestEveryDeliveringReadAdvances(t *testing.T) {
	s := source.New([]byte("abcdefgh"), api.Script{Chunks: []int{4, 1, 2}, FailAt: -1})
	checkRead(t, s, 1, "a", api.OK)
	checkRead(t, s, 9, "b", api.OK)
	checkRead(t, s, 1, "c", api.OK)
	checkRead(t, s, 9, "defg", api.OK)
	checkRead(t, s, 9, "h", api.OK)
}

// P4.2: reads with an invalid size neither advance the sequence nor anything else.
func TestFailedReadsDoNotAdvance(t *testing.T) {
	s := source.New([]byte("abcdefgh"), api.Script{Chunks: []int{3, 1, 2}, FailAt: -1})
	for i, want := range []string{"abc", "d", "ef", "gh"} {
		offset := s.Offset()
		for _, n := range []int{0, -1, math.MinInt} {
			checkRead(t, s, n, "", api.ErrArg)
			checkState(t, s, offset, i)
		}
		checkRead(t, s, 9, want, api.OK)
	}
}

// P4.2: the check of the size precedes ErrIO and ErrEOF.
func TestOrderOfErrors(t *testing.T) {
	for _, n := range []int{0, -1, math.MinInt} {
		checkRead(t, source.New([]byte("abc"), api.Script{FailAt: 0}), n, "", api.ErrArg)
		checkRead(t, source.New(nil, api.Script{FailAt: 0}), n, "", api.ErrArg)
		checkRead(t, source.New(nil, api.Script{FailAt: -1}), n, "", api.ErrArg)
	}
	// ErrIO precedes ErrEOF.
	checkRead(t, source.New(nil, api.Script{FailAt: 0}), 1, "", api.ErrIO)
	s := source.New([]byte("abc"), api.Script{FailAt: 3})
	checkRead(t, s, 3, "abc", api.OK)
	checkRead(t, s, 3, "", api.ErrIO)
}

// P4.2
func TestFailure(t *testing.T) {
	for _, c := range []struct {
		failAt int64
		want   string
		err    api.Errno
	}{
		{0, "", api.ErrIO}, {1, "a", api.ErrIO}, {4, "abcd", api.ErrIO}, {5, "abcde", api.ErrIO},
		{6, "abcde", api.ErrEOF}, {7, "abcde", api.ErrEOF}, {1<<32 + 2, "abcde", api.ErrEOF}, {math.MaxInt64, "abcde", api.ErrEOF},
		{-1, "abcde", api.ErrEOF}, {-5, "abcde", api.ErrEOF}, {-1 << 32, "abcde", api.ErrEOF}, {math.MinInt64, "abcde", api.ErrEOF},
	} {
		for _, chunks := range [][]int{nil, {1}, {2}, {3, 1}, {100}} {
			s := source.New([]byte("abcde"), api.Script{Chunks: chunks, FailAt: c.failAt})
			var got []byte
			for s.Offset() < int64(len(c.want)) {
				b, err := s.Read(100)
				if err != api.OK {
					t.Fatalf("fail at %d, chunks %v: %v after %q", c.failAt, chunks, err, got)
				}
				got = append(got, b...)
			}
			if string(got) != c.want {
				t.Errorf("fail at %d, chunks %v: %q; want %q", c.failAt, chunks, got, c.want)
			}
			reads := s.Reads()
			for range 3 {
				checkRead(t, s, 100, "", c.err)
				checkState(t, s, int64(len(c.want)), reads)
			}
		}
	}
}

// P4.2
func TestReadsAreNewMemory(t *testing.T) {
	for _, at := range []int64{-1, 6} {
		data := []byte("abcdef")
		s := source.New(data, api.Script{FailAt: at})
		first, _ := s.Read(2)
		second, _ := s.Read(2)
		for _, b := range [][]byte{first, second} {
			b = b[:cap(b)]
			for i := range b {
				b[i] = 'x'
			}
		}
		checkRead(t, s, 9, "ef", api.OK)
		if string(first[:2]) != "xx" || string(second[:2]) != "xx" || string(data) != "abcdef" {
			t.Errorf("%q, %q, %q", first, second, data)
		}
		copy(first, "12")
		if string(second) != "xx" {
			t.Errorf("the second result became %q with the first", second)
		}
	}
}

// P4.3
func TestOffsetAndReads(t *testing.T) {
	s := source.New([]byte("abcdef"), api.Script{Chunks: []int{1, 2, 9}, FailAt: 5})
	for _, c := range []struct {
		n      int
		err    api.Errno
		offset int64
		reads  int
	}{{9, api.OK, 1, 1}, {0, api.ErrArg, 1, 1}, {9, api.OK, 3, 2}, {-1, api.ErrArg, 3, 2}, {1, api.OK, 4, 3}, {9, api.OK, 5, 4}, {9, api.ErrIO, 5, 4}, {0, api.ErrArg, 5, 4}, {1, api.ErrIO, 5, 4}} {
		if _, err := s.Read(c.n); err != c.err {
			t.Errorf("Read(%d) = %v; want %v", c.n, err, c.err)
		}
		checkState(t, s, c.offset, c.reads)
		checkState(t, s, c.offset, c.reads)
	}
}

// P4.4: whatever the reads and the script are, with every byte value among the data.
func TestDeliveredBytesAreAPrefix(t *testing.T) {
	data := numbered(700)
	for _, at := range []int64{-1, 0, 1, 255, 512, 699, 700, 701} {
		for _, chunks := range [][]int{nil, {1}, {-1, 300}, {512}, {7, 1, 64}, {700}, {701}} {
			for _, n := range []int{1, 13, 512, 1000} {
				s := source.New(data, api.Script{Chunks: chunks, FailAt: at})
				var got []byte
				reads := 0
				for b, err := s.Read(n); err == api.OK; b, err = s.Read(n) {
					if len(b) == 0 {
						t.Fatal("a read without bytes")
					}
					got = append(got, b...)
					reads++
				}
				want := data
				if 0 <= at && at < 700 {
					want = data[:at]
				}
				if !bytes.Equal(got, want) {
					t.Errorf("fail at %d, chunks %v, reads of %d: %d bytes, %.20q", at, chunks, n, len(got), got)
				}
				checkState(t, s, int64(len(want)), reads)
			}
		}
	}
}

// P4.2 to P4.4: all small scripts, with several sequences of reads.
func TestSmallScripts(t *testing.T) {
	var scripts [][]int
	for a := -1; a < 4; a++ {
		scripts = append(scripts, []int{a})
		for b := -1; b < 4; b++ {
			scripts = append(scripts, []int{a, b}, []int{a, b, 2}, []int{3, a, 1, b})
		}
	}
	for length := range 8 {
		data := numbered(length)
		for at := int64(-2); at < 10; at++ {
			for _, chunks := range scripts {
				for _, sizes := range [][]int{{1}, {2}, {9}, {1, 3}, {0, 2}, {4, -1, 1}} {
					checkAgainstModel(t, data, api.Script{Chunks: chunks, FailAt: at}, sizes)
				}
			}
		}
	}
}

// P2: sources of the same arguments do not influence each other.
func TestSourcesAreIndependent(t *testing.T) {
	b := []byte("abcdef")
	script := api.Script{Chunks: []int{1, 2}, FailAt: 4}
	one, two := source.New(b, script), source.New(b, script)
	checkRead(t, one, 9, "a", api.OK)
	checkRead(t, one, 9, "bc", api.OK)
	checkState(t, two, 0, 0)
	checkRead(t, two, 9, "a", api.OK)
	checkRead(t, one, 9, "d", api.OK)
	checkRead(t, one, 9, "", api.ErrIO)
	checkRead(t, two, 9, "bc", api.OK)
	checkState(t, two, 3, 2)
}

// The errors and values of a nil source.
func TestNilSource(t *testing.T) {
	var s *source.Source
	for _, n := range []int{math.MinInt, -1, 0, 1, math.MaxInt} {
		checkRead(t, s, n, "", api.ErrNil)
	}
	checkState(t, s, 0, 0)
}

// P1: no call panics, whatever its arguments.
func TestNoPanic(t *testing.T) {
	extremes := []int{math.MinInt, -1, 0, 1, 2, math.MaxInt}
	for _, data := range [][]byte{nil, {}, {0}, numbered(300)} {
		for _, at := range []int64{math.MinInt64, -1, 0, 1, 299, 300, 301, math.MaxInt64} {
			for _, a := range extremes {
				for _, b := range extremes {
					s := source.New(data, api.Script{Chunks: []int{a, b}, FailAt: at})
					for _, n := range extremes {
						s.Read(n)
					}
				}
			}
		}
	}
}
