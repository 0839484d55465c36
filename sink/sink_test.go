package sink_test

import (
	"bytes"
	"math"
	"slices"
	"strings"
	"testing"

	"paxtar/api"
	"paxtar/sink"
	"paxtar/source"
)

// A model is a sink in the words of the chapter, built without the package under test.
type model struct {
	script api.Script
	data   []byte
	writes int
}

func (m *model) chunk() int {
	if len(m.script.Chunks) == 0 {
		return 1048576
	}
	return max(1, m.script.Chunks[m.writes%len(m.script.Chunks)])
}

func (m *model) failed() bool {
	return m.script.FailAt >= 0 && int64(len(m.data)) == m.script.FailAt
}

func (m *model) write(b []byte) (int, api.Errno) {
	if len(b) == 0 {
		return 0, api.OK
	}
	if m.failed() {
		return 0, api.ErrIO
	}
	n := 0
	for chunk := m.chunk(); n < len(b) && n < chunk && !m.failed(); n++ {
		m.data = append(m.data, b[n])
	}
	m.writes++
	return n, api.OK
}

func (m *model) writeAll(b []byte) api.Errno {
	for i := 0; i < len(b); {
		n, err := m.write(b[i:])
		if err != api.OK {
			return err
		}
		i += n
	}
	return api.OK
}

// varied returns n bytes of every value, in an order without a short period.
func varied(n int) []byte {
	b := make([]byte, n)
	for i := range b {
		b[i] = byte(i*7 + i/256)
	}
	return b
}

func checkWrite(t *testing.T, s *sink.Sink, b string, want int, wantErr api.Errno) {
	t.Helper()
	if n, err := s.Write([]byte(b)); n != want || err != wantErr {
		t.Errorf("Write(%.40q) = %d, %v; want %d, %v", b, n, err, want, wantErr)
	}
}

func checkWriteAll(t *testing.T, s *sink.Sink, b string, want api.Errno) {
	t.Helper()
	if err := s.WriteAll([]byte(b)); err != want {
		t.Errorf("WriteAll(%.40q) = %v; want %v", b, err, want)
	}
}

func checkContent(t *testing.T, s *sink.Sink, want string) {
	t.Helper()
	if string(s.Bytes()) != want || s.Len() != int64(len(want)) {
		t.Errorf("the sink contains %.40q and has the length %d; want %.40q, %d", s.Bytes(), s.Len(), want, len(want))
	}
}

// checkAgainstModel writes parts of the given lengths in turn: a negative length stands for WriteAll.
func checkAgainstModel(t *testing.T, script api.Script, lengths []int) {
	t.Helper()
	s := sink.New(script)
	m := &model{script: script}
	data := varied(99)
	for i := range 9 {
		var n, want int
		var err, wantErr api.Errno
		if length := lengths[i%len(lengths)]; length >= 0 {
			n, err = s.Write(data[i:][:length])
			want, wantErr = m.write(data[i:][:length])
		} else {
			err = s.WriteAll(data[i:][:-length])
			wantErr = m.writeAll(data[i:][:-length])
		}
		if n != want || err != wantErr || !bytes.Equal(s.Bytes(), m.data) || s.Len() != int64(len(m.data)) {
			t.Fatalf("%v, lengths %v: call %d is %d, %v with %q; want %d, %v with %q", script, lengths, i, n, err, s.Bytes(), want, wantErr, m.data)
		}
	}
}

// The chapter's examples.
func TestExamples(t *testing.T) {
	checkWrite(t, sink.New(api.Script{Chunks: []int{2}, FailAt: -1}), "abc", 2, api.OK)
	s := sink.New(api.Script{Chunks: []int{2}, FailAt: 3})
	checkWriteAll(t, s, "abcde", api.ErrIO)
	checkContent(t, s, "abc")
}

// P5.1
func TestNewSink(t *testing.T) {
	for _, chunks := range [][]int{nil, {}, {0}, {3, 1}} {
		for _, at := range []int64{math.MinInt64, -1, 0, 1, math.MaxInt64} {
			s := sink.New(api.Script{Chunks: chunks, FailAt: at})
			if s == nil {
				t.Fatalf("New(%v, %d) is nil", chunks, at)
			}
			checkContent(t, s, "")
		}
	}
}

// P5.1: the sink works with what its script was.
func TestLaterChangesOfTheScript(t *testing.T) {
	script := api.Script{Chunks: []int{2, 1}, FailAt: 6}
	s := sink.New(script)
	script.Chunks[0], script.Chunks[1] = 5, 5
	script.FailAt = 0
	checkWrite(t, s, "abcdef", 2, api.OK)
	script.Chunks[0], script.Chunks[1] = 6, 6
	script.Chunks = nil
	checkWrite(t, s, "cdefgh", 1, api.OK)
	checkWriteAll(t, s, "defgh", api.ErrIO)
	checkContent(t, s, "abcdef")
}

// P5.1, P5.2 and rule 4: arguments are neither modified nor kept.
func TestTheArgumentsAreNotModified(t *testing.T) {
	chunks := []int{0, -3, 2, math.MinInt, math.MaxInt}
	for _, at := range []int64{-1, 0, 2, 6, 99} {
		b := []byte("abcdef")
		script := api.Script{Chunks: slices.Clone(chunks), FailAt: at}
		s := sink.New(script)
		for range 4 {
			s.Write(b[:3])
			s.WriteAll(b[:5])
		}
		if string(b) != "abcdef" || !slices.Equal(script.Chunks, chunks) {
			t.Errorf("the arguments became %q and %v", b, script.Chunks)
		}
	}
}

// P5.1, P5.2 and rule 4: only the bytes and the chunk sizes up to the length of a slice count.
func TestNothingIsUsedBeyondTheLength(t *testing.T) {
	s := sink.New(api.Script{Chunks: []int{7, 1, 2, 7}[1:3], FailAt: -1})
	b := []byte("..abcdef..")[2:5]
	for _, want := range []int{1, 2, 1, 2} {
		if n, err := s.Write(b); n != want || err != api.OK {
			t.Errorf("Write = %d, %v; want %d", n, err, want)
		}
	}
	checkContent(t, s, "aabaab")
	all := sink.New(api.Script{Chunks: []int{2, 1}[:0], FailAt: -1})
	if n, err := all.Write(b); n != 3 || err != api.OK {
		t.Errorf("Write = %d, %v; want 3", n, err)
	}
	if n, err := all.Write(b[:0]); n != 0 || err != api.OK {
		t.Errorf("Write = %d, %v; want 0", n, err)
	}
	if err := all.WriteAll(b[:1]); err != api.OK {
		t.Errorf("WriteAll = %v", err)
	}
	checkContent(t, all, "abca")
}

// P5.2 and rule 4: the bytes that were passed may be modified later.
func TestLaterChangesOfTheBytes(t *testing.T) {
	s := sink.New(api.Script{FailAt: -1})
	b := []byte("abc")
	s.Write(b)
	copy(b, "xyz")
	checkContent(t, s, "abc")
	s.WriteAll(b)
	copy(b, "...")
	checkContent(t, s, "abcxyz")
}

// P5.2
func TestSizeOfAWrite(t *testing.T) {
	data := strings.Repeat("x", 5) + strings.Repeat("y", 15)
	for _, c := range []struct {
		length, chunk int
		failAt        int64
		want          int
	}{
		{1, 9, -1, 1}, {8, 9, -1, 8}, {9, 9, -1, 9}, {10, 9, -1, 9}, {20, 9, -1, 9},
		{20, 19, -1, 19}, {20, 20, -1, 20}, {20, 21, -1, 20}, {20, math.MaxInt, -1, 20},
		{20, 1, -1, 1}, {20, 0, -1, 1}, {20, -1, -1, 1}, {20, math.MinInt, -1, 1}, {20, math.MinInt, 1, 1},
		{9, 9, 1, 1}, {9, 9, 8, 8}, {9, 9, 9, 9}, {9, 9, 10, 9}, {8, 9, 10, 8}, {10, 9, 10, 9}, {20, 99, 19, 19}, {20, 99, 20, 20}, {20, 99, 21, 20},
		{20, 99, 1<<32 + 2, 20}, {20, 99, math.MaxInt64, 20}, {20, 99, -1 << 32, 20}, {20, 99, math.MinInt64, 20}, {20, math.MaxInt, 7, 7},
	} {
		s := sink.New(api.Script{Chunks: []int{c.chunk}, FailAt: c.failAt})
		checkWrite(t, s, data[:c.length], c.want, api.OK)
		checkContent(t, s, data[:c.want])
	}
}

// P5.2: without bytes there is no error, also where the sink fails.
func TestEmptyWrite(t *testing.T) {
	for _, c := range []struct {
		failAt int64
		want   string
	}{{-1, "aaa"}, {0, ""}, {2, "aa"}, {3, "aaa"}} {
		s := sink.New(api.Script{FailAt: c.failAt})
		for range 4 {
			for _, b := range [][]byte{nil, {}} {
				if n, err := s.Write(b); n != 0 || err != api.OK {
					t.Errorf("Write(%v), fail at %d: %d, %v", b, c.failAt, n, err)
				}
				if err := s.WriteAll(b); err != api.OK {
					t.Errorf("WriteAll(%v), fail at %d: %v", b, c.failAt, err)
				}
			}
			if s.Len() < 3 {
				s.Write([]byte("a"))
			}
		}
		checkContent(t, s, c.want)
	}
}

// P5.2: without chunk sizes, each one is 1048576.
func TestDefaultChunk(t *testing.T) {
	const chunk = 1048576
	data := string(varied(chunk + 5))
	for _, chunks := range [][]int{nil, {}} {
		s := sink.New(api.Script{Chunks: chunks, FailAt: -1})
		checkWrite(t, s, data, chunk, api.OK)
		checkWrite(t, s, "abc", 3, api.OK)
		checkWrite(t, s, data[:chunk+1], chunk, api.OK)
		checkWrite(t, s, data[:chunk], chunk, api.OK)
		checkWrite(t, s, data[:chunk-1], chunk-1, api.OK)
		checkContent(t, s, data[:chunk]+"abc"+data[:chunk]+data[:chunk]+data[:chunk-1])
	}
	large := sink.New(api.Script{Chunks: []int{chunk + 2}, FailAt: -1})
	checkWrite(t, large, data, chunk+2, api.OK)
	limited := sink.New(api.Script{FailAt: chunk + 1})
	checkWrite(t, limited, data, chunk, api.OK)
	checkWrite(t, limited, data[chunk:], 1, api.OK)
	checkWrite(t, limited, data[chunk+1:], 0, api.ErrIO)
}

// P5.2: after the last chunk size the first one follows.
func TestChunkSizesStartAgain(t *testing.T) {
	s := sink.New(api.Script{Chunks: []int{3, 0, 2, -7}, FailAt: -1})
	rest := "abcdefghijklmnop"
	for _, want := range []int{3, 1, 2, 1, 3, 1, 2, 1, 2} {
		checkWrite(t, s, rest, want, api.OK)
		rest = rest[want:]
	}
	checkContent(t, s, "abcdefghijklmnop")
}

// P5.2: a short write uses up its chunk size, and the rest of a chunk size is lost.
func TestEveryAcceptingWriteAdvances(t *testing.T) {
	s := sink.New(api.Script{Chunks: []int{4, 1, 2}, FailAt: -1})
	checkWrite(t, s, "a", 1, api.OK)
	checkWrite(t, s, "bcdef", 1, api.OK)
	checkWrite(t, s, "c", 1, api.OK)
	checkWrite(t, s, "defghi", 4, api.OK)
	checkWrite(t, s, "h", 1, api.OK)
	checkWrite(t, s, "ijklm", 2, api.OK)
	checkContent(t, s, "abcdefghij")
}

// P5.2: writes that accept nothing do not advance the sequence of the chunk sizes.
func TestEmptyWritesDoNotAdvance(t *testing.T) {
	s := sink.New(api.Script{Chunks: []int{3, 1, 2}, FailAt: -1})
	for _, want := range []int{3, 1, 2, 3, 1} {
		for range 2 {
			checkWrite(t, s, "", 0, api.OK)
			checkWriteAll(t, s, "", api.OK)
		}
		checkWrite(t, s, "abcdef", want, api.OK)
	}
}

// P5.2
func TestFailure(t *testing.T) {
	for _, c := range []struct {
		failAt int64
		want   string
		err    api.Errno
	}{
		{0, "", api.ErrIO}, {1, "a", api.ErrIO}, {2, "ab", api.ErrIO}, {4, "abcd", api.ErrIO}, {5, "abcde", api.OK}, {6, "abcde", api.OK}, {1<<32 + 2, "abcde", api.OK}, {math.MaxInt64, "abcde", api.OK},
		{-1, "abcde", api.OK}, {-3, "abcde", api.OK}, {-1 << 32, "abcde", api.OK}, {math.MinInt64, "abcde", api.OK},
	} {
		for _, chunks := range [][]int{nil, {1}, {2}, {3, 1}, {100}} {
			s := sink.New(api.Script{Chunks: chunks, FailAt: c.failAt})
			for s.Len() < int64(len(c.want)) {
				if n, err := s.Write([]byte("abcde"[s.Len():])); n < 1 || err != api.OK {
					t.Fatalf("fail at %d, chunks %v: %d, %v after %q", c.failAt, chunks, n, err, s.Bytes())
				}
			}
			checkContent(t, s, c.want)
			if c.err != api.OK {
				for range 3 {
					checkWrite(t, s, "xyz", 0, c.err)
					checkWriteAll(t, s, "x", c.err)
					checkWrite(t, s, "", 0, api.OK)
					checkContent(t, s, c.want)
				}
			}
			all := sink.New(api.Script{Chunks: chunks, FailAt: c.failAt})
			checkWriteAll(t, all, "abcde", c.err)
			checkContent(t, all, c.want)
		}
	}
}

// P5.3: the bytes before the failure remain, those after it are never accepted.
func TestWriteAll(t *testing.T) {
	for _, c := range []struct {
		script api.Script
		errs   [3]api.Errno
		want   string
	}{
		{api.Script{FailAt: -1}, [3]api.Errno{}, "abcdefgh"},
		{api.Script{Chunks: []int{1}, FailAt: -1}, [3]api.Errno{}, "abcdefgh"},
		{api.Script{Chunks: []int{0, 2}, FailAt: 9}, [3]api.Errno{}, "abcdefgh"},
		{api.Script{Chunks: []int{2}, FailAt: 8}, [3]api.Errno{}, "abcdefgh"},
		{api.Script{Chunks: []int{2}, FailAt: 7}, [3]api.Errno{0, 0, api.ErrIO}, "abcdefg"},
		{api.Script{Chunks: []int{1, 5}, FailAt: 5}, [3]api.Errno{0, api.ErrIO, api.ErrIO}, "abcde"},
		{api.Script{FailAt: 4}, [3]api.Errno{0, api.ErrIO, api.ErrIO}, "abcd"},
		{api.Script{FailAt: 3}, [3]api.Errno{api.ErrIO, api.ErrIO, api.ErrIO}, "abc"},
		{api.Script{Chunks: []int{-1}, FailAt: 0}, [3]api.Errno{api.ErrIO, api.ErrIO, api.ErrIO}, ""},
	} {
		s := sink.New(c.script)
		for i, part := range []string{"abcd", "ef", "gh"} {
			checkWriteAll(t, s, part, c.errs[i])
			checkWriteAll(t, s, "", api.OK)
		}
		checkContent(t, s, c.want)
	}
}

// P5.3: WriteAll takes as many chunk sizes of the sequence as its calls of Write do.
func TestWriteAllAdvancesLikeWrite(t *testing.T) {
	s := sink.New(api.Script{Chunks: []int{2, 3, 1, 4}, FailAt: -1})
	checkWriteAll(t, s, "abcd", api.OK)
	checkWrite(t, s, "efg", 1, api.OK)
	checkWriteAll(t, s, "fgh", api.OK)
	checkWrite(t, s, "ijklm", 2, api.OK)
	checkWriteAll(t, s, "klmno", api.OK)
	checkWrite(t, s, "pqrstu", 2, api.OK)
	checkContent(t, s, "abcdefghijklmnopq")
}

// P5.3: many writes of one call, with every byte value.
func TestLongWriteAll(t *testing.T) {
	data := varied(2*1048576 + 100)
	for _, chunks := range [][]int{nil, {1}, {512}, {1000000, -1}, {math.MaxInt}} {
		for _, at := range []int64{-1, 1048577, int64(len(data))} {
			s := sink.New(api.Script{Chunks: chunks, FailAt: at})
			want, wantErr := data, api.OK
			if at == 1048577 {
				want, wantErr = data[:at], api.ErrIO
			}
			if err := s.WriteAll(data); err != wantErr {
				t.Errorf("chunks %v, fail at %d: %v; want %v", chunks, at, err, wantErr)
			}
			checkContent(t, s, string(want))
		}
	}
}

// P5.4
func TestBytesAreNewMemory(t *testing.T) {
	s := sink.New(api.Script{FailAt: -1})
	s.WriteAll([]byte("abc"))
	first, second := s.Bytes(), s.Bytes()
	copy(first, "xyz")
	if string(second) != "abc" {
		t.Errorf("the second result became %q with the first", second)
	}
	checkContent(t, s, "abc")
	s.WriteAll([]byte("def"))
	if string(first) != "xyz" || string(second) != "abc" {
		t.Errorf("earlier results became %q and %q", first, second)
	}
	// Appending to a result writes to the memory behind it.
	_ = append(second, "xyz"...)
	third := s.Bytes()
	_ = append(third[:3], "xyz"...)
	checkContent(t, s, "abcdef")
}

// P5.4
func TestLen(t *testing.T) {
	s := sink.New(api.Script{Chunks: []int{1, 2, 9}, FailAt: 5})
	for _, c := range []struct {
		b    string
		err  api.Errno
		want string
	}{{"abc", api.OK, "a"}, {"", api.OK, "a"}, {"bcd", api.OK, "abc"}, {"d", api.OK, "abcd"}, {"efg", api.OK, "abcde"}, {"fg", api.ErrIO, "abcde"}, {"", api.OK, "abcde"}, {"f", api.ErrIO, "abcde"}} {
		if _, err := s.Write([]byte(c.b)); err != c.err {
			t.Errorf("Write(%q) = %v; want %v", c.b, err, c.err)
		}
		checkContent(t, s, c.want)
		checkContent(t, s, c.want)
	}
}

// P5.5: whatever the script is and however the bytes are passed.
func TestContentIsAPrefix(t *testing.T) {
	data := varied(700)
	for _, at := range []int64{-1, 0, 1, 255, 512, 699, 700, 701} {
		for _, chunks := range [][]int{nil, {1}, {-1, 300}, {512}, {7, 1, 64}, {700}, {701}} {
			for _, length := range []int{1, 13, 350, 512, 700} {
				want, wantErr := data, api.OK
				if 0 <= at && at < 700 {
					want, wantErr = data[:at], api.ErrIO
				}
				s := sink.New(api.Script{Chunks: chunks, FailAt: at})
				var last api.Errno
				passed := 0
				for part := range slices.Chunk(data, length) {
					last = s.WriteAll(part)
					passed += len(part)
					checkContent(t, s, string(want[:min(passed, len(want))]))
				}
				if last != wantErr {
					t.Errorf("fail at %d, chunks %v, parts of %d: %v; want %v", at, chunks, length, last, wantErr)
				}
			}
		}
	}
}

// P5.2: the chunk sizes are those of a source with the same script (layer 4).
func TestChunkSizesAreThoseOfASource(t *testing.T) {
	data := varied(3000000)
	for _, chunks := range [][]int{nil, {}, {700000, 0, 1300000}, {-1, 2999998, 5}, {math.MaxInt}, {1000000}} {
		for _, at := range []int64{-1, 0, 1, 1048577, 2999999, 3000000, 3000001} {
			script := api.Script{Chunks: chunks, FailAt: at}
			from, to := source.New(data, script), sink.New(script)
			rest := data
			for len(rest) > 0 {
				b, readErr := from.Read(math.MaxInt)
				n, err := to.Write(rest)
				if n != len(b) || err != readErr {
					t.Fatalf("%v: a write accepts %d, %v where a read delivers %d, %v", script, n, err, len(b), readErr)
				}
				if err != api.OK {
					break
				}
				rest = rest[n:]
			}
		}
	}
}

// P5.2 to P5.5: all small scripts, with several sequences of calls.
func TestSmallScripts(t *testing.T) {
	scripts := [][]int{nil}
	for a := -1; a < 4; a++ {
		scripts = append(scripts, []int{a})
		for b := -1; b < 4; b++ {
			scripts = append(scripts, []int{a, b}, []int{a, b, 2}, []int{3, a, 1, b})
		}
	}
	for at := int64(-2); at < 25; at++ {
		for _, chunks := range scripts {
			for _, lengths := range [][]int{{1}, {2}, {9}, {1, 3}, {0, 2}, {4, 0, 1}, {-1}, {-2}, {-9}, {3, -4}, {-5, 2, 0, -1}} {
				checkAgainstModel(t, api.Script{Chunks: chunks, FailAt: at}, lengths)
			}
		}
	}
}

// P2: sinks of the same script do not influence each other.
func TestSinksAreIndependent(t *testing.T) {
	script := api.Script{Chunks: []int{1, 2}, FailAt: 4}
	one, two := sink.New(script), sink.New(script)
	checkWrite(t, one, "abc", 1, api.OK)
	checkWrite(t, one, "bcd", 2, api.OK)
	checkContent(t, two, "")
	checkWrite(t, two, "xyz", 1, api.OK)
	checkWriteAll(t, one, "de", api.ErrIO)
	checkWrite(t, two, "yz.", 2, api.OK)
	checkContent(t, one, "abcd")
	checkContent(t, two, "xyz")
}

// The errors and values of a nil sink: ErrNil precedes the rule for empty slices.
func TestNilSink(t *testing.T) {
	var s *sink.Sink
	for _, b := range [][]byte{nil, {}, []byte("abc")} {
		if n, err := s.Write(b); n != 0 || err != api.ErrNil {
			t.Errorf("Write(%q) = %d, %v", b, n, err)
		}
		if err := s.WriteAll(b); err != api.ErrNil {
			t.Errorf("WriteAll(%q) = %v", b, err)
		}
	}
	checkContent(t, s, "")
}

// P1: no call panics, whatever its arguments.
func TestNoPanic(t *testing.T) {
	extremes := []int{math.MinInt, -1, 0, 1, 2, math.MaxInt}
	for _, data := range [][]byte{nil, {}, {0}, varied(300)} {
		for _, at := range []int64{math.MinInt64, -1, 0, 1, 299, 300, 301, math.MaxInt64} {
			for _, a := range extremes {
				for _, b := range extremes {
					s := sink.New(api.Script{Chunks: []int{a, b}, FailAt: at})
					s.Write(data)
					s.WriteAll(data)
					s.Write(data)
					s.Bytes()
				}
			}
		}
	}
}
