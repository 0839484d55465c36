package archive_test

import (
	"archive/tar"
	"bytes"
	"fmt"
	"io"
	"maps"
	"math"
	"math/rand"
	"runtime"
	"slices"
	"strconv"
	"strings"
	"sync"
	"testing"

	"paxtar/api"
	"paxtar/archive"
	"paxtar/block"
	"paxtar/entry"
	"paxtar/flatten"
	"paxtar/sink"
	"paxtar/source"
	"paxtar/tree"
)

const (
	maxOctal   = 8589934591
	maxSize    = 1099511627776
	maxRecords = 262144
)

// splits are chunk sizes around the size of a block, and others.
var splits = [][]int{nil, {1}, {7, 100}, {511}, {512}, {513}, {511, 1}, {300, -1, 1000}, {1024}, {math.MaxInt, math.MinInt}}

// long is a path that does not fit a header.
var long = x(101)

// x returns a string of n bytes without a slash.
func x(n int) string { return strings.Repeat("x", n) }

// zeros returns n zero bytes.
func zeros(n int) string { return strings.Repeat("\x00", n) }

func dir(path string, mode int) api.Node { return api.Node{Kind: api.Dir, Path: path, Mode: mode} }

func file(path string, mode, class int, data string) api.Node {
	return api.Node{Kind: api.File, Path: path, Mode: mode, Data: []byte(data), Class: class}
}

func symlink(path, target string) api.Node {
	return api.Node{Kind: api.Symlink, Path: path, Target: target}
}

// seal sets the checksum of a header block.
func seal(block string) string {
	b := []byte(block)
	copy(b[148:], "        ")
	sum := 0
	for _, c := range b {
		sum += int(c)
	}
	copy(b[148:], fmt.Sprintf("%06o\x00 ", sum))
	return string(b)
}

// with returns a stream with other bytes at an offset.
func with(stream string, at int, s string) string {
	return stream[:at] + s + stream[at+len(s):]
}

// header returns a header block, from the layout of chapter 7.
func header(kind, prefix, name, link string, mode int, size int64) string {
	b := make([]byte, 512)
	copy(b, name)
	copy(b[100:], fmt.Sprintf("%07o\x000000000\x000000000\x00%011o\x0000000000000\x00", mode, size))
	copy(b[156:], kind)
	copy(b[157:], link)
	copy(b[257:], "ustar\x0000")
	copy(b[329:], "0000000\x000000000\x00")
	copy(b[345:], prefix)
	return seal(string(b))
}

// dirHeader and the following functions return the headers of members that need no records.
func dirHeader(path string, mode int) string { return header("5", "", path, "", mode, 0) }

func fileHeader(path string, mode, size int) string {
	return header("0", "", path, "", mode, int64(size))
}

func symlinkHeader(path, target string) string { return header("2", "", path, target, 0, 0) }

func linkHeader(path string, mode int, target string) string {
	return header("1", "", path, target, mode, 0)
}

// padded returns the given bytes and as many zero bytes as make whole blocks of them.
func padded(s string) string { return s + zeros((512-len(s)%512)%512) }

// line returns an encoded record: the first length that is consistent.
func line(key, value string) string {
	rest := " " + key + "=" + value + "\n"
	for n := len(rest); ; n++ {
		if s := strconv.Itoa(n); len(s)+len(rest) == n {
			return s + rest
		}
	}
}

// extended returns the blocks of records, whatever they contain.
func extended(records string) string {
	return header("x", "", "pax", "", 0, int64(len(records))) + padded(records)
}

// split is the placement of a path in a header; the last result is false if it needs a record.
func split(path string) (string, string, bool) {
	if len(path) <= 100 {
		return "", path, true
	}
	for i := range len(path) {
		if path[i] == '/' && i >= 1 && i <= 155 && len(path)-i-1 >= 1 && len(path)-i-1 <= 100 {
			return path[:i], path[i+1:], true
		}
	}
	return "", "", false
}

// entryBlocks returns the header blocks of a valid entry, from the chapters 7 to 12.
func entryBlocks(e api.Entry) string {
	records, link, size := "", e.Target, e.Size
	if len(link) > 100 {
		records, link = line("linkpath", link), ""
	}
	prefix, name, ok := split(e.Path)
	if !ok {
		records += line("path", e.Path)
	}
	if size > maxOctal {
		records, size = records+line("size", strconv.FormatInt(size, 10)), 0
	}
	last := header([]string{"5", "0", "2", "1"}[e.Kind], prefix, name, link, e.Mode, size)
	if records == "" {
		return last
	}
	return extended(records) + last
}

// stream returns the canonical archive of a valid tree in any order: the chapter's introduction, and those of the chapters 11 and 14. It looks through the whole list for each path.
func stream(l []api.Node) string {
	var paths []string
	for _, n := range l {
		paths = append(paths, n.Path)
	}
	slices.Sort(paths)
	var s strings.Builder
	for _, p := range paths {
		n := l[slices.IndexFunc(l, func(n api.Node) bool { return n.Path == p })]
		least := p
		for _, m := range l {
			if n.Class > 0 && m.Class == n.Class && m.Path < least {
				least = m.Path
			}
		}
		if least != p {
			s.WriteString(entryBlocks(api.Entry{Kind: api.Hardlink, Path: p, Mode: n.Mode, Target: least}))
			continue
		}
		s.WriteString(entryBlocks(api.Entry{Kind: n.Kind, Path: p, Mode: n.Mode, Target: n.Target, Size: int64(len(n.Data))}))
		s.WriteString(padded(string(n.Data)))
	}
	return s.String() + zeros(1024)
}

// text shows a node completely, and nil and empty data alike.
func text(n api.Node) string {
	return fmt.Sprintf("%d %q %d %q %q %d", n.Kind, n.Path, n.Mode, n.Target, n.Data, n.Class)
}

func texts(l []api.Node) []string {
	var s []string
	for _, n := range l {
		s = append(s, text(n))
	}
	return s
}

func cut(s string) string {
	if len(s) > 500 {
		return s[:500] + "…"
	}
	return s
}

func short(l []api.Node) string { return cut(fmt.Sprint(texts(l))) }

// wantCreated checks that Create and Encode yield the given archive for a tree, also in a sink that contains bytes.
func wantCreated(t *testing.T, l []api.Node, want string) {
	t.Helper()
	before := texts(l)
	if b, err := archive.Encode(l); string(b) != want || err != api.OK {
		t.Errorf("Encode(%s) = %d bytes, %v, want %d bytes", short(l), len(b), err, len(want))
	}
	for i, earlier := range []string{"", "abc", x(512), x(1000)} {
		s := sink.New(api.Script{Chunks: splits[(len(l)+i)%len(splits)], FailAt: -1})
		s.WriteAll([]byte(earlier))
		if err := archive.Create(l, s); err != api.OK || string(s.Bytes()) != earlier+want {
			t.Errorf("Create(%s) = %v with %d bytes, want %d bytes after %d", short(l), err, s.Len(), len(want), len(earlier))
		}
	}
	if !slices.Equal(texts(l), before) {
		t.Errorf("the tree has become %s", short(l))
	}
}

// wantNotCreated checks that Create and Encode return an error, and that nothing is written.
func wantNotCreated(t *testing.T, l []api.Node, want api.Errno) {
	t.Helper()
	before := texts(l)
	if b, err := archive.Encode(l); len(b) != 0 || err != want {
		t.Errorf("Encode(%s) = %d bytes, %v, want %v", short(l), len(b), err, want)
	}
	// The error precedes that of a sink that fails at once.
	for _, at := range []int64{-1, 3, 1000} {
		s := sink.New(api.Script{FailAt: at})
		s.WriteAll([]byte("abc"))
		if err := archive.Create(l, s); err != want || string(s.Bytes()) != "abc" {
			t.Errorf("Create(%s) = %v with %d bytes, want %v", short(l), err, s.Len(), want)
		}
	}
	if err := archive.Create(l, nil); err != api.ErrNil {
		t.Errorf("Create(%s, nil) = %v", short(l), err)
	}
	if !slices.Equal(texts(l), before) {
		t.Errorf("the tree has become %s", short(l))
	}
}

// wantRead checks the results of Read for a source that has delivered some bytes before.
func wantRead(t *testing.T, b string, script api.Script, skip int, want []api.Node, at int, err api.Errno) {
	t.Helper()
	s := source.New([]byte(x(skip)+b), script)
	for s.Offset() < int64(skip) {
		s.Read(skip - int(s.Offset()))
	}
	l, n, e := archive.Read(s)
	if !slices.Equal(texts(l), texts(want)) || n != int64(at) || e != err {
		t.Errorf("Read of %d bytes, %v after %d = %s, %d, %v, want %s, %d, %v", len(b), script, skip, short(l), n, e, short(want), at, err)
	}
}

// wantDecoded checks the results of Decode, and of Read however the source splits the bytes.
func wantDecoded(t *testing.T, b string, want []api.Node, at int, err api.Errno) {
	t.Helper()
	argument := []byte(b)
	l, n, e := archive.Decode(argument)
	if !slices.Equal(texts(l), texts(want)) || n != int64(at) || e != err {
		t.Errorf("Decode of %d bytes = %s, %d, %v, want %s, %d, %v", len(b), short(l), n, e, short(want), at, err)
	}
	if string(argument) != b {
		t.Errorf("Decode has changed its argument")
	}
	for i, skip := range []int{0, 3, 512, 700} {
		chunks := splits[(len(b)/512+len(b)+i)%len(splits)]
		wantRead(t, b, api.Script{Chunks: chunks, FailAt: -1}, skip, want, at, err)
		// A failure beyond the end is none.
		wantRead(t, b, api.Script{Chunks: chunks, FailAt: int64(skip + len(b) + 1 + i)}, skip, want, at, err)
	}
}

// wantAccepted checks that a tree has the given archive, which is read back as its canonical form.
func wantAccepted(t *testing.T, l []api.Node, b string) {
	t.Helper()
	wantCreated(t, l, b)
	wantDecoded(t, b, tree.Canon(l), len(b), api.OK)
}

// wantRejected checks that a stream is rejected, alone and after other members. The stream contains all the bytes that are necessary for the error, and no more: where the error is not that the stream ends, anything may follow.
func wantRejected(t *testing.T, b string, at int, err api.Errno) {
	t.Helper()
	members := dirHeader("!", 1) + fileHeader("!/f", 2, 600) + padded(x(600)) + extended(line("linkpath", long)) + symlinkHeader("!s", "") + fileHeader("!t", 3, 0)
	for i, before := range []string{"", members[:512], members} {
		all := before + b
		wantDecoded(t, all, nil, len(before)+at, err)
		failing := api.Script{Chunks: splits[(len(all)+i)%len(splits)], FailAt: int64(len(all))}
		if at == len(b) {
			wantRead(t, all, failing, 0, nil, len(all), api.ErrIO)
			continue
		}
		wantRead(t, all+x(600), failing, 0, nil, len(before)+at, err)
		for _, more := range []string{x(1), zeros(512), zeros(1024), x(1024)} {
			wantDecoded(t, all+more, nil, len(before)+at, err)
		}
	}
}

// The examples of the chapter, and of DOC.md for this layer.
func TestExamples(t *testing.T) {
	wantAccepted(t, nil, zeros(1024))
	wantAccepted(t, []api.Node{}, zeros(1024))
	wantDecoded(t, zeros(1025), nil, 1024, api.ErrTrailer)
	wantAccepted(t, []api.Node{file("b", 1, 7, "x"), file("a", 1, 7, "x")}, fileHeader("a", 1, 1)+padded("x")+linkHeader("b", 1, "a")+zeros(1024))
	wantRejected(t, fileHeader("a/b", 1, 0), 0, api.ErrParent)
	wantRejected(t, dirHeader("a", 1)+fileHeader("b", 1, 0)+dirHeader("a", 1), 1024, api.ErrOrder)
}

// P17.1: known trees, whose archives are written out.
func TestKnownArchives(t *testing.T) {
	end := zeros(1024)
	data := strings.Repeat("0123456789", 60)
	wantAccepted(t, []api.Node{dir("d", 0o755)}, dirHeader("d", 0o755)+end)
	wantAccepted(t, []api.Node{symlink("s", "../t")}, symlinkHeader("s", "../t")+end)
	wantAccepted(t, []api.Node{file("f", 4095, 9, "")}, fileHeader("f", 4095, 0)+end)
	for _, n := range []int{1, 2, 511, 512} {
		wantAccepted(t, []api.Node{file("f", 0o644, 0, data[:n])}, fileHeader("f", 0o644, n)+data[:n]+zeros(512-n)+end)
	}
	for _, n := range []int{513, 600} {
		wantAccepted(t, []api.Node{file("f", 0o644, 0, data[:n])}, fileHeader("f", 0o644, n)+data[:n]+zeros(1024-n)+end)
	}
	// The contents of a file may look like a part of an archive.
	for _, s := range []string{zeros(512), zeros(2048), zeros(1000), dirHeader("d", 1), stream([]api.Node{file("g", 1, 0, "data")})} {
		wantAccepted(t, []api.Node{file("f", 1, 0, s)}, fileHeader("f", 1, len(s))+padded(s)+end)
		wantAccepted(t, []api.Node{file("f", 1, 0, s), dir("g", 1)}, fileHeader("f", 1, len(s))+padded(s)+dirHeader("g", 1)+end)
	}
	// Records precede the header of a member.
	path := x(155) + "/" + x(100)
	wantAccepted(t, []api.Node{dir(long, 7)}, extended("111 path="+long+"\n")+header("5", "", "", "", 7, 0)+end)
	wantAccepted(t, []api.Node{symlink(long, long)}, extended("115 linkpath="+long+"\n111 path="+long+"\n")+header("2", "", "", "", 0, 0)+end)
	wantAccepted(t, []api.Node{file(path, 1, 0, "x"), dir(x(155), 2)}, dirFirst(2)+header("0", x(155), x(100), "", 1, 1)+padded("x")+end)
	wantAccepted(t, []api.Node{file("a", 5, 1, "data"), file(long, 5, 1, "data")}, fileHeader("a", 5, 4)+padded("data")+extended("111 path="+long+"\n")+header("1", "", "", "a", 5, 0)+end)
	wantAccepted(t, []api.Node{file("z", 5, 1, "data"), file(long, 5, 1, "data")}, extended("111 path="+long+"\n")+header("0", "", "", "", 5, 4)+padded("data")+extended("115 linkpath="+long+"\n")+linkHeader("z", 5, "")+end)
}

// dirFirst returns the member of the directory with 155 bytes.
func dirFirst(mode int) string {
	return extended(line("path", x(155))) + header("5", "", "", "", mode, 0)
}

// sample returns a tree with nodes of all kinds, with and without records, and in no order.
func sample() []api.Node {
	return []api.Node{
		file("z", 0o644, 3, "shared\n"), dir("d", 0o755), symlink("s", "d/f"), file("d/f", 0o644, 3, "shared\n"), symlink(long, "/"+long), file("d/e", 1, 0, ""),
		file("d/"+x(99), 0o600, 8, x(600)), file("d/"+x(200), 0o600, 8, x(600)), file("d.x", 4095, 7, zeros(512)), dir("d/d", 0), symlink("d/d/s", ".."), file("\xff", 0o644, 3, "shared\n"), file("a", 0, 0, "\x00"),
	}
}

// P17.1: all kinds together, in the order of the paths, whatever the order of the nodes and the class numbers are.
func TestSample(t *testing.T) {
	want := fileHeader("a", 0, 1) + padded("\x00") + dirHeader("d", 0o755) + fileHeader("d.x", 4095, 512) + zeros(512) + dirHeader("d/d", 0) + symlinkHeader("d/d/s", "..") +
		fileHeader("d/e", 1, 0) + fileHeader("d/f", 0o644, 7) + padded("shared\n") +
		header("0", "d", x(99), "", 0o600, 600) + padded(x(600)) + extended(line("linkpath", "d/"+x(99))+line("path", "d/"+x(200))) + header("1", "", "", "", 0o600, 0) +
		symlinkHeader("s", "d/f") + extended(line("linkpath", "/"+long)+line("path", long)) + header("2", "", "", "", 0, 0) + linkHeader("z", 0o644, "d/f") + linkHeader("\xff", 0o644, "d/f") + zeros(1024)
	l := sample()
	random := rand.New(rand.NewSource(1))
	for range 100 {
		wantAccepted(t, l, want)
		random.Shuffle(len(l), func(i, j int) { l[i], l[j] = l[j], l[i] })
		for i := range l {
			if l[i].Class > 0 {
				l[i].Class += 1000
			}
		}
	}
	wantAccepted(t, tree.Canon(l), want)
}

// P17.1: the error of a nil sink precedes all others.
func TestNilSink(t *testing.T) {
	for _, l := range [][]api.Node{nil, sample(), {dir("/", -1)}, {file("a/b", 1, 0, "")}, {{Kind: 9}}} {
		if err := archive.Create(l, nil); err != api.ErrNil {
			t.Errorf("Create(%s, nil) = %v", short(l), err)
		}
	}
}

// P17.1: an invalid tree has no archive, and the error is that of tree.Check.
func TestInvalidTrees(t *testing.T) {
	for _, c := range []struct {
		node api.Node
		err  api.Errno
	}{
		{api.Node{Kind: -1, Path: "k"}, api.ErrKind}, {api.Node{Kind: api.Hardlink, Path: "k", Target: "d/f", Mode: 0o644}, api.ErrKind}, {api.Node{Kind: api.Device, Path: "k"}, api.ErrKind}, {api.Node{Kind: math.MaxInt, Path: "/"}, api.ErrKind},
		{dir("", 0), api.ErrSyntax}, {dir("/", -1), api.ErrSyntax}, {dir("d/", 1), api.ErrSyntax}, {file("a/../b", 0, -1, ""), api.ErrSyntax}, {file("a\x00", 0, 0, ""), api.ErrSyntax}, {dir(x(65537), 0), api.ErrTooLong},
		{dir("k", -1), api.ErrMode}, {file("k", 4096, 0, ""), api.ErrMode}, {api.Node{Kind: api.Symlink, Path: "k", Target: "t", Mode: 1}, api.ErrMode},
		{api.Node{Kind: api.Dir, Path: "k", Target: "t"}, api.ErrArg}, {api.Node{Kind: api.File, Path: "k", Target: "t"}, api.ErrArg}, {symlink("k", ""), api.ErrSyntax}, {symlink("k", "\x00"), api.ErrSyntax}, {symlink("k", x(65537)), api.ErrTooLong},
		{api.Node{Kind: api.Dir, Path: "k", Data: []byte("x")}, api.ErrArg}, {api.Node{Kind: api.Symlink, Path: "k", Target: "t", Data: []byte("x")}, api.ErrArg}, {file("k", 0, -1, ""), api.ErrLink}, {api.Node{Kind: api.Dir, Path: "k", Class: 1}, api.ErrLink},
		{dir("d", 1), api.ErrDuplicate}, {file("s", 1, 0, ""), api.ErrDuplicate}, {dir("no/k", 1), api.ErrParent}, {dir("s/k", 1), api.ErrParent}, {symlink("d/f/k", "t"), api.ErrParent},
		{file("k", 2, 3, "shared\n"), api.ErrLink}, {file("k", 0o644, 3, "shared"), api.ErrLink}, {file("k", 0o644, 3, ""), api.ErrLink},
	} {
		wantNotCreated(t, append(sample(), c.node), c.err)
		wantNotCreated(t, append(sample(), c.node, dir("e", 1), dir("d", 1)), c.err)
	}
	wantNotCreated(t, []api.Node{file("a/b", 1, 0, "x")}, api.ErrParent)
	// A node that is invalid by itself counts before the relations of the earlier ones.
	wantNotCreated(t, []api.Node{dir("a/b", 1), dir("c", 1), dir("d", -1)}, api.ErrMode)
}

// P17.1, P6: a sink that fails contains all the bytes before the failure, and no others.
func TestFailingSink(t *testing.T) {
	for _, l := range [][]api.Node{nil, {file("f", 1, 0, "data")}, sample()} {
		want := stream(l)
		for at := range len(want) + 2 {
			earlier := []string{"", "abc", x(512)}[at%3]
			s := sink.New(api.Script{Chunks: splits[at%len(splits)], FailAt: int64(len(earlier) + at)})
			s.WriteAll([]byte(earlier))
			err, wantErr := archive.Create(l, s), api.ErrIO
			if at >= len(want) {
				wantErr = api.OK
			}
			if err != wantErr || string(s.Bytes()) != earlier+want[:min(at, len(want))] {
				t.Fatalf("Create(%s) = %v with %d bytes in a sink that fails at %d", short(l), err, s.Len(), len(earlier)+at)
			}
		}
	}
	// This sink has failed before.
	s := sink.New(api.Script{FailAt: 2})
	s.WriteAll([]byte("abc"))
	if err := archive.Create(nil, s); err != api.ErrIO || string(s.Bytes()) != "ab" {
		t.Error(err, s.Bytes())
	}
}

// P17.1: several archives follow each other in one sink, and are read back one by one where each source has only one of them.
func TestSeveralArchives(t *testing.T) {
	s := sink.New(api.Script{Chunks: []int{700, 3}, FailAt: -1})
	all := ""
	for _, l := range [][]api.Node{sample(), nil, {dir("d", 1)}, sample()} {
		if err := archive.Create(l, s); err != api.OK {
			t.Error(err)
		}
		all += stream(l)
	}
	if string(s.Bytes()) != all {
		t.Error(s.Len(), len(all))
	}
	wantDecoded(t, all, nil, len(stream(sample())), api.ErrTrailer)
}

// P17.2: the error of a nil source.
func TestNilSource(t *testing.T) {
	if l, at, err := archive.Read(nil); len(l) != 0 || at != 0 || err != api.ErrNil {
		t.Error(l, at, err)
	}
}

// P17.2: the errors of the headers and records, with their offsets.
func TestInvalidHeaders(t *testing.T) {
	good := dirHeader("k", 1)
	wantRejected(t, with(good, 0, "j"), 0, api.ErrChecksum)
	wantRejected(t, x(512), 0, api.ErrChecksum)
	wantRejected(t, zeros(511)+"x", 0, api.ErrChecksum)
	wantRejected(t, "x"+zeros(511), 0, api.ErrChecksum)
	wantRejected(t, zeros(200)+"x"+zeros(311), 0, api.ErrChecksum)
	for _, kind := range []string{"3", "4", "6", "g", "L", "\x00"} {
		wantRejected(t, header(kind, "", "k", "", 1, 0), 0, api.ErrKind)
	}
	for _, b := range []string{with(good, 108, "0000001"), with(good, 136, "00000000001"), with(good, 257, "ustar  \x00"), with(good, 265, "root"), with(good, 511, "x"), with(good, 100, "000644 ")} {
		wantRejected(t, seal(b), 0, api.ErrSyntax)
	}
	for _, b := range []string{dirHeader("", 1), dirHeader("k/", 1), dirHeader("/k", 1), dirHeader("a/../k", 1), header("5", "", "k", "t", 1, 0), header("5", "", "k", "", 1, 512), header("5", "k", "k", "", 1, 0), symlinkHeader("k", ""), header("2", "", "k", "t", 1, 0), linkHeader("k", 1, "/"), header("0", "", "k", "t", 1, 0)} {
		wantRejected(t, b, 0, api.ErrSyntax)
	}
}

// P17.2: the errors of extended headers, with their offsets.
func TestInvalidRecords(t *testing.T) {
	record := line("path", long)
	for _, b := range []string{header("x", "", "pax", "", 0, 0), header("x", "", "pax", "", 0, maxRecords+1), header("x", "", "pax", "", 1, 111), header("x", "", "PaxHeaders/k", "", 0, 111), header("x", "a", "pax", "", 0, 111), header("x", "", "pax", "t", 0, 111), header("x", "", "", "", 0, 111)} {
		wantRejected(t, b, 0, api.ErrRecord)
	}
	wantRejected(t, extended("x"), 512, api.ErrSyntax)
	wantRejected(t, extended(record+"x"), 512+111, api.ErrSyntax)
	wantRejected(t, extended(record+record), 512+111, api.ErrOrder)
	wantRejected(t, extended(record+line("linkpath", long)), 512+111, api.ErrOrder)
	wantRejected(t, extended(line("mtime", "1")), 512, api.ErrRecord)
	wantRejected(t, extended(line("size", "1099511627777")), 512, api.ErrRange)
	// This is not the end of the stream: a record is longer than the records.
	wantRejected(t, extended(record+"30 size=8589934592\n"), 512+111, api.ErrTruncated)
	wantRejected(t, with(extended(record), 512+111, "x"), 512+111, api.ErrPadding)
	wantRejected(t, with(extended(record), 1023, "x"), 1023, api.ErrPadding)
	// The header after the records is a part of the member.
	wantRejected(t, extended(record)+zeros(512), 1024, api.ErrChecksum)
	wantRejected(t, extended(record)+x(512), 1024, api.ErrChecksum)
	wantRejected(t, extended(record)+header("7", "", "", "", 1, 0), 1024, api.ErrKind)
	wantRejected(t, extended(record)+seal(with(dirHeader("", 1), 511, "x")), 1024, api.ErrSyntax)
	for _, last := range []string{dirHeader("k", 1), header("x", "", "pax", "", 0, 111), symlinkHeader("", ""), header("5", "", "", "", 1, 1)} {
		wantRejected(t, extended(record)+last, 1024, api.ErrRecord)
	}
	wantRejected(t, extended(line("path", x(100)))+dirHeader("", 1), 1024, api.ErrRecord)
	wantRejected(t, extended(line("size", "8589934591"))+fileHeader("k", 1, 0), 1024, api.ErrRecord)
	wantRejected(t, extended(line("path", long+"/"))+dirHeader("", 1), 1024, api.ErrRecord)
}

// P17.2: a member that does not fit the earlier ones is rejected at its first block, before its data are read.
func TestInvalidMembers(t *testing.T) {
	before := dirHeader("d", 1) + fileHeader("d/f", 2, 513) + padded(x(513)) + linkHeader("d/h", 2, "d/f") + symlinkHeader("k", "d") + fileHeader("m", 3, 0)
	record := func(path string) string { return extended(line("path", path)) }
	for _, c := range []struct {
		member string
		err    api.Errno
	}{
		{dirHeader("m", 1), api.ErrOrder}, {fileHeader("m", 3, 0), api.ErrOrder}, {symlinkHeader("a", "t"), api.ErrOrder}, {linkHeader("d/g", 2, "d/f"), api.ErrOrder}, {fileHeader("d", 1, 5), api.ErrOrder}, {fileHeader("M", 1, 513), api.ErrOrder},
		{header("0", "a", x(100), "", 1, 513), api.ErrOrder}, {record("a"+long) + dirHeader("", 1), api.ErrOrder}, {record("a/"+x(200)) + fileHeader("", 1, 513), api.ErrOrder}, {extended(line("linkpath", long)) + linkHeader("k", 1, ""), api.ErrOrder},
		{dirHeader("n/k", 1), api.ErrParent}, {fileHeader("n/k", 1, 5), api.ErrParent}, {fileHeader("m/k", 1, 1000), api.ErrParent}, {symlinkHeader("m/k", "t"), api.ErrParent}, {linkHeader("n/k", 1, "n"), api.ErrParent}, {dirHeader("z/d", 1), api.ErrParent}, {fileHeader("\xff/k", 1, 0), api.ErrParent},
		{record("x/"+x(200)) + fileHeader("", 1, 513), api.ErrParent}, {record(x(156)+"/"+x(100)) + dirHeader("", 1), api.ErrParent},
		{linkHeader("n", 2, "d"), api.ErrLink}, {linkHeader("n", 1, "d"), api.ErrLink}, {linkHeader("n", 3, "d/f"), api.ErrLink}, {linkHeader("n", 2, "d/h"), api.ErrLink}, {linkHeader("n", 0, "k"), api.ErrLink}, {linkHeader("n", 3, "n"), api.ErrLink}, {linkHeader("n", 3, "o"), api.ErrLink}, {linkHeader("n", 3, "d/g"), api.ErrLink},
		{record(x(300)) + linkHeader("", 2, "m"), api.ErrLink}, {extended(line("linkpath", x(300))) + linkHeader("n", 2, ""), api.ErrLink},
	} {
		wantRejected(t, before+c.member, len(before), c.err)
		// Neither the end nor the bytes of the data matter.
		wantRejected(t, before+c.member+x(512), len(before), c.err)
	}
	// Without the earlier members, there is neither a directory nor a file.
	wantRejected(t, fileHeader("d/f", 2, 513), 0, api.ErrParent)
	wantRejected(t, linkHeader("h", 2, "d/f"), 0, api.ErrLink)
	wantRejected(t, record(x(200))+linkHeader("", 1, x(100)), 0, api.ErrLink)
	// The order counts from the last member, of whatever kind.
	for _, last := range []string{dirHeader("q", 1), fileHeader("q", 1, 0), fileHeader("q", 1, 3) + padded("abc"), symlinkHeader("q", "t"), linkHeader("q", 3, "m")} {
		for _, path := range []string{"q", "p", "N", "m/m"} {
			wantRejected(t, before+last+dirHeader(path, 1), len(before+last), api.ErrOrder)
		}
	}
}

// P17.2: the errors of the data, with their offsets.
func TestInvalidData(t *testing.T) {
	for _, size := range []int{1, 5, 511, 513, 600, 1023, 1025} {
		data := padded(x(size))
		for _, i := range []int{size, len(data) - 1, (size + len(data)) / 2} {
			b := fileHeader("k", 1, size) + with(data, i, "\x01")
			wantRejected(t, b, 512+i, api.ErrPadding)
			// The first byte that is not zero counts.
			wantRejected(t, with(b, len(b)-1, "\xff"), 512+i, api.ErrPadding)
		}
	}
	wantRejected(t, extended(line("path", long))+fileHeader("", 1, 3)+padded("abcd"), 1536+3, api.ErrPadding)
	// A file without data has no padding, and the other kinds have no data.
	for _, b := range []string{fileHeader("k", 1, 0), dirHeader("k", 1), symlinkHeader("k", "t"), fileHeader("j", 1, 0) + linkHeader("k", 1, "j")} {
		wantRejected(t, b+x(512), len(b), api.ErrChecksum)
		wantRejected(t, b+zeros(511)+"x", len(b), api.ErrChecksum)
	}
}

// P17.2, P17.3: the source ends within a member, between two of them, or within the trailer.
func TestTruncated(t *testing.T) {
	record := line("path", x(600))
	for _, b := range []string{
		"", dirHeader("k", 1)[:1], dirHeader("k", 1)[:511], dirHeader("k", 1), symlinkHeader("k", "t") + "x", fileHeader("k", 1, 0),
		extended(record)[:512], extended(record)[:513], extended(record)[:1024], extended(record), extended(record) + x(3), extended(record) + dirHeader("", 1),
		fileHeader("k", 1, 1), fileHeader("k", 1, 1) + "x", fileHeader("k", 1, 513) + x(512), fileHeader("k", 1, 513) + x(1023), fileHeader("k", 1, 513) + padded(x(513)),
		header("0", "", "k", "", 1, maxOctal), header("0", "", "k", "", 1, maxOctal) + x(5000), extended(line("size", "8589934592")) + fileHeader("k", 1, 0) + x(700), extended(line("size", "1099511627776")) + fileHeader("k", 1, 0),
		"\x00", zeros(511), zeros(512), zeros(513), zeros(1023), zeros(512) + "x", zeros(512) + x(511), zeros(1022) + "x",
	} {
		wantRejected(t, b, len(b), api.ErrTruncated)
	}
}

// P17.5: no proper prefix of a canonical archive is accepted, and P6: no archive whose source fails.
func TestPrefixes(t *testing.T) {
	for _, l := range [][]api.Node{nil, {file("f", 1, 0, "data")}, sample()} {
		b := stream(l)
		for n := range len(b) + 1 {
			chunks := splits[n%len(splits)]
			if n < len(b) {
				wantRead(t, b[:n], api.Script{Chunks: chunks, FailAt: -1}, 0, nil, n, api.ErrTruncated)
			}
			wantRead(t, b, api.Script{Chunks: chunks, FailAt: int64(n)}, 0, nil, n, api.ErrIO)
			if t.Failed() {
				return
			}
		}
		for n := 1; n < 600; n++ {
			wantRead(t, b, api.Script{FailAt: int64(len(b) + n)}, 0, tree.Canon(l), len(b), api.OK)
		}
	}
}

// P17.3: the second block of the trailer.
func TestSecondBlock(t *testing.T) {
	for i := range 512 {
		wantDecoded(t, zeros(512)+with(zeros(512), i, "\x01"), nil, 512, api.ErrTrailer)
	}
	for _, i := range []int{0, 1, 255, 510, 511} {
		wantRejected(t, zeros(512)+with(zeros(512), i, "\x01"), 512, api.ErrTrailer)
	}
	wantRejected(t, zeros(512)+x(512), 512, api.ErrTrailer)
	// Nothing but a zero block may follow a zero block, not even another member.
	for _, b := range []string{dirHeader("k", 1), extended(line("path", long)), header("7", "", "k", "", 1, 0)} {
		wantRejected(t, zeros(512)+b[:512], 512, api.ErrTrailer)
	}
	b := dirHeader("k", 1) + zeros(512) + dirHeader("l", 1) + zeros(1024)
	wantDecoded(t, b, nil, 1024, api.ErrTrailer)
}

// P17.3, P17.4: nothing may follow the trailer, and a failure counts before the bytes of an incomplete block.
func TestAfterTheTrailer(t *testing.T) {
	for _, l := range [][]api.Node{nil, {dir("d", 1)}, sample()} {
		b := stream(l)
		for _, more := range []string{"\x00", "x", zeros(511), x(511), zeros(512), x(512), dirHeader("z", 1), zeros(513), x(1024), zeros(1024), b} {
			all := b + more
			wantDecoded(t, all, nil, len(b), api.ErrTrailer)
			for i, n := range []int{0, 1, 2, 510, 511, 512, 513, 600, 1023, 1024, 1025} {
				if n > len(more) {
					break
				}
				script := api.Script{Chunks: splits[(len(all)+i)%len(splits)], FailAt: int64(len(b) + n)}
				if n < 512 {
					wantRead(t, all, script, 0, nil, len(b)+n, api.ErrIO)
				} else {
					wantRead(t, all, script, 0, nil, len(b), api.ErrTrailer)
				}
			}
		}
	}
}

// P17.3: the stream starts where the source is, and the whole source is read, so that a further archive is none.
func TestReadAgain(t *testing.T) {
	b := stream(sample())
	s := source.New([]byte(b), api.Script{Chunks: []int{700}, FailAt: -1})
	if l, n, err := archive.Read(s); !slices.Equal(texts(l), texts(tree.Canon(sample()))) || n != int64(len(b)) || err != api.OK || s.Offset() != n {
		t.Error(short(l), n, err)
	}
	for range 2 {
		if l, n, err := archive.Read(s); len(l) != 0 || n != 0 || err != api.ErrTruncated {
			t.Error(short(l), n, err)
		}
	}
	s = source.New([]byte(b), api.Script{FailAt: 0})
	for range 2 {
		if l, n, err := archive.Read(s); len(l) != 0 || n != 0 || err != api.ErrIO {
			t.Error(short(l), n, err)
		}
	}
}

// P17.2: a large size with a short source fails without a large allocation.
func TestLargeSize(t *testing.T) {
	var before, after runtime.MemStats
	runtime.ReadMemStats(&before)
	for _, b := range []string{header("0", "", "k", "", 1, maxOctal), extended(line("size", "1099511627776")) + fileHeader("k", 1, 0)} {
		wantDecoded(t, b+x(1000), nil, len(b)+1000, api.ErrTruncated)
	}
	runtime.ReadMemStats(&after)
	if n := after.TotalAlloc - before.TotalAlloc; n > 1<<24 {
		t.Errorf("%d bytes have been allocated", n)
	}
}

// reference is P17.2 to P17.4: it reads the given bytes, which are all that the source delivers, and the error in which it then ends.
type reference struct {
	b       string
	failing bool
	dirs    map[string]bool
	files   map[string]api.Node
	nodes   []api.Node
}

// end returns the error at the end of the bytes.
func (r *reference) end() (int, api.Errno) {
	if r.failing {
		return len(r.b), api.ErrIO
	}
	return len(r.b), api.ErrTruncated
}

// trailer returns the results for a trailer that starts at an offset.
func (r *reference) trailer(at int) (int, api.Errno) {
	rest := len(r.b) - at - 1024
	switch {
	case rest < 0:
		return r.end()
	case r.b[at+512:at+1024] != zeros(512):
		return at + 512, api.ErrTrailer
	case rest >= 512 || rest > 0 && !r.failing:
		return at + 1024, api.ErrTrailer
	case r.failing:
		return r.end()
	}
	return at + 1024, api.OK
}

// check is P15.1 for an entry that is valid by itself.
func (r *reference) check(e api.Entry) api.Errno {
	i := strings.LastIndex(e.Path, "/")
	f, ok := r.files[e.Target]
	switch {
	case len(r.nodes) > 0 && e.Path <= r.nodes[len(r.nodes)-1].Path:
		return api.ErrOrder
	case i >= 0 && !r.dirs[e.Path[:i]]:
		return api.ErrParent
	case e.Kind == api.Hardlink && (!ok || f.Mode != e.Mode):
		return api.ErrLink
	}
	return api.OK
}

// add adds a node for an entry.
func (r *reference) add(e api.Entry, data string) {
	n := api.Node{Kind: e.Kind, Path: e.Path, Mode: e.Mode, Target: e.Target}
	switch e.Kind {
	case api.Dir:
		r.dirs[e.Path] = true
	case api.File:
		n.Data, n.Class = []byte(data), len(r.nodes)+1
		r.files[e.Path] = n
	case api.Hardlink:
		n = r.files[e.Target]
		n.Path = e.Path
	}
	r.nodes = append(r.nodes, n)
}

// read returns the offset and the error of Read.
func (r *reference) read() (int, api.Errno) {
	for at := 0; ; {
		if len(r.b) >= at+512 && r.b[at:at+512] == zeros(512) {
			return r.trailer(at)
		}
		script := api.Script{FailAt: -1}
		if r.failing {
			script.FailAt = int64(len(r.b) - at)
		}
		blocks := block.NewReader(source.New([]byte(r.b[at:]), script))
		e, n, err := entry.Decode(blocks)
		if err == api.ErrEOF {
			err = api.ErrTruncated
		}
		if err != api.OK {
			return at + int(n), err
		}
		if err := r.check(e); err != api.OK {
			return at, err
		}
		at += int(blocks.Offset())
		next := int64(at) + (e.Size+511)/512*512
		if next > int64(len(r.b)) {
			return r.end()
		}
		padding := r.b[at+int(e.Size) : next]
		if rest := strings.TrimLeft(padding, "\x00"); rest != "" {
			return int(next) - len(rest), api.ErrPadding
		}
		r.add(e, r.b[at:at+int(e.Size)])
		at = int(next)
	}
}

// wantReference checks the results for a source with the given bytes, which may fail. It returns the error.
func wantReference(t *testing.T, b string, script api.Script) api.Errno {
	t.Helper()
	r := &reference{b: b, dirs: map[string]bool{}, files: map[string]api.Node{}}
	if 0 <= script.FailAt && script.FailAt <= int64(len(b)) {
		r.b, r.failing = b[:script.FailAt], true
	}
	at, err := r.read()
	if err != api.OK {
		r.nodes = nil
	}
	nodes := tree.Canon(r.nodes)
	wantRead(t, b, script, 0, nodes, at, err)
	// What is accepted is the archive of what is returned.
	if err == api.OK && stream(nodes) != b {
		t.Errorf("%d bytes that are no canonical archive are accepted", len(b))
	}
	return err
}

// randomTree returns a valid tree in a random order.
func randomTree(random *rand.Rand) []api.Node {
	var l []api.Node
	parents := []string{""}
	used := map[string]bool{}
	classes := []int{1, 2, 5, 1 << 40, math.MaxInt}
	for range random.Intn(20) {
		p := parents[random.Intn(len(parents))] + []string{"a", "b", "a.x", "A", "\xff", "0", x(60), long}[random.Intn(8)]
		if used[p] {
			continue
		}
		used[p] = true
		switch random.Intn(4) {
		case 0:
			l = append(l, dir(p, random.Intn(4096)))
			parents = append(parents, p+"/")
		case 1:
			l = append(l, symlink(p, strings.Repeat(p, 1+random.Intn(3))))
		case 2:
			l = append(l, file(p, random.Intn(4096), 0, strings.Repeat(string(rune(random.Intn(128))), random.Intn(1100))))
		default:
			i := random.Intn(len(classes))
			l = append(l, file(p, i, classes[i], x(i*300)))
		}
	}
	random.Shuffle(len(l), func(i, j int) { l[i], l[j] = l[j], l[i] })
	return l
}

// randomScript returns a script that does not fail.
func randomScript(random *rand.Rand) api.Script {
	chunks := make([]int, random.Intn(4))
	for i := range chunks {
		chunks[i] = random.Intn(1200) - 100
	}
	return api.Script{Chunks: chunks, FailAt: -1}
}

// P17.1, P17.5, P3: random trees have the archive of the chapter, which is read back.
func TestRandomTrees(t *testing.T) {
	random := rand.New(rand.NewSource(2))
	for range 800 {
		l := randomTree(random)
		want := stream(l)
		wantAccepted(t, l, want)
		s := sink.New(randomScript(random))
		if err := archive.Create(l, s); err != api.OK || string(s.Bytes()) != want {
			t.Errorf("Create(%s) = %v", short(l), err)
		}
		wantReference(t, want, randomScript(random))
		// The length is that of flatten.Size.
		members, _, _ := flatten.Members(l)
		if n, err := flatten.Size(members...); n != int64(len(want)) || err != api.OK {
			t.Error(n, err)
		}
		if t.Failed() {
			return
		}
	}
}

// reseal sets the checksum of a block.
func reseal(b string, at int) string { return with(b, at, seal(b[at:at+512])) }

// spoil changes a stream of at least one block at random.
func spoil(random *rand.Rand, b string) string {
	blocks := len(b) / 512
	i, j := 512*random.Intn(blocks), 512*random.Intn(blocks)
	switch random.Intn(9) {
	case 0:
		return b[:i] + b[i+512:]
	case 1:
		return b[:i] + b[j:]
	case 2:
		return b[:i] + b[j:j+512] + b[i:]
	case 3:
		return with(b, i, b[j:j+512])
	case 4:
		return b[:random.Intn(len(b))]
	case 5:
		return b + strings.Repeat(string(rune(random.Intn(2))), 1+random.Intn(1100))
	case 6:
		return with(b, random.Intn(len(b)), string(rune(random.Intn(128))))
	case 7:
		// The first byte of a name, a mode, or a size, for example.
		at := []int{0, 1, 99, 106, 124, 134, 156, 157, 257, 345, 511, random.Intn(512)}[random.Intn(12)]
		return reseal(with(b, i+at, string(rune("\x00/012357abx"[random.Intn(11)]))), i)
	}
	return b[:i] + zeros(512) + b[i:]
}

// P17.2 to P17.5: changed archives against the reference, and the archive of what is accepted is the argument.
func TestChangedArchives(t *testing.T) {
	random := rand.New(rand.NewSource(3))
	results := map[api.Errno]int{}
	for range 20000 {
		b := spoil(random, stream(randomTree(random)))
		script := randomScript(random)
		if random.Intn(3) == 0 {
			script.FailAt = int64(len(b) - random.Intn(min(len(b)+1, 2000)))
		}
		results[wantReference(t, b, script)]++
		if t.Failed() {
			return
		}
	}
	for _, err := range []api.Errno{api.OK, api.ErrTruncated, api.ErrIO, api.ErrChecksum, api.ErrKind, api.ErrSyntax, api.ErrPadding, api.ErrRecord, api.ErrOrder, api.ErrParent, api.ErrLink, api.ErrTrailer} {
		if results[err] < 10 {
			t.Errorf("only %d streams with the result %v", results[err], err)
		}
	}
}

// P17.5: an archive with another byte is rejected, or it is the archive of what is returned.
func TestChangedBytes(t *testing.T) {
	b := stream(sample())
	accepted := 0
	for i := range len(b) {
		for _, c := range []byte{0, '1', b[i] + 1} {
			if c == b[i] {
				continue
			}
			changed := []byte(b)
			changed[i] = c
			l, n, err := archive.Decode(changed)
			if err != api.OK {
				if len(l) != 0 || n > int64(len(b)) {
					t.Fatal(i, c, short(l), n, err)
				}
				continue
			}
			accepted++
			if again, err := archive.Encode(l); !bytes.Equal(again, changed) || err != api.OK || n != int64(len(b)) {
				t.Fatal(i, c, n, err)
			}
		}
	}
	// At least the contents of the four files may be any bytes.
	if accepted < 2*(1+512+7+600) {
		t.Error(accepted)
	}
}

// P17.1: other programs can read the archive.
func TestOtherReader(t *testing.T) {
	types := []byte{tar.TypeDir, tar.TypeReg, tar.TypeSymlink, tar.TypeLink}
	random := rand.New(rand.NewSource(4))
	for range 300 {
		l := randomTree(random)
		b, _ := archive.Encode(l)
		members, _, _ := flatten.Members(l)
		r := tar.NewReader(bytes.NewReader(b))
		for _, m := range members {
			h, err := r.Next()
			if err != nil {
				t.Fatal(err)
			}
			data, err := io.ReadAll(r)
			got := fmt.Sprintf("%c %q %d %q %d %q", h.Typeflag, h.Name, h.Mode, h.Linkname, h.Size, data)
			want := fmt.Sprintf("%c %q %d %q %d %q", types[m.Entry.Kind], m.Entry.Path, m.Entry.Mode, m.Entry.Target, m.Entry.Size, m.Data)
			if got != want || err != nil {
				t.Fatal(got, want, err)
			}
		}
		if _, err := r.Next(); err != io.EOF {
			t.Fatal(err)
		}
	}
}

// fill overwrites a slice up to its capacity: bytes beyond the length might be those of another slice.
func fill(b []byte, c byte) {
	b = b[:cap(b)]
	for i := range b {
		b[i] = c
	}
}

// Rule 4: results share memory neither with arguments nor with each other.
func TestNewMemory(t *testing.T) {
	shared := []byte("data of several files")
	l := []api.Node{{Kind: api.File, Path: "a", Data: shared, Class: 1}, {Kind: api.File, Path: "b", Data: shared, Class: 1}, {Kind: api.File, Path: "c", Data: shared[:4]}, {Kind: api.File, Path: "d", Data: shared[4:4]}}
	before := texts(l)
	want := stream(l)
	first, _ := archive.Encode(l)
	second, _ := archive.Encode(l)
	fill(first, '!')
	if string(second) != want || !slices.Equal(texts(l), before) {
		t.Fatal("the archives share memory")
	}
	one, _, _ := archive.Decode(second)
	two, _, _ := archive.Decode(second)
	canon := texts(tree.Canon(l))
	for i := range one {
		fill(one[i].Data, '!')
		if string(second) != want || !slices.Equal(texts(two), canon) || !slices.Equal(texts(one[i+1:]), canon[i+1:]) {
			t.Fatalf("the data of the node %d share memory", i)
		}
	}
	clear(one)
	fill(second, '?')
	if !slices.Equal(texts(two), canon) {
		t.Error("the nodes share memory with the argument")
	}
	fill(shared, '?')
	third, _ := archive.Encode(two)
	if string(third) != want {
		t.Error("the nodes share memory with other ones")
	}
}

// Rule 4: nothing beyond the length of an argument counts.
func TestBeyondTheLength(t *testing.T) {
	l := []api.Node{file("b", 1, 1, "x"), file("a", 1, 1, "x"), dir("/", -1)}
	wantCreated(t, l[:1], stream(l[:1]))
	wantCreated(t, l[:2], stream(l[:2]))
	b := []byte(stream(l[:2]) + x(512))
	if got, n, err := archive.Decode(b[:len(b)-512]); len(got) != 2 || n != int64(len(b)-512) || err != api.OK {
		t.Error(short(got), n, err)
	}
	if got, n, err := archive.Decode(b[:len(b)-513]); len(got) != 0 || n != int64(len(b)-513) || err != api.ErrTruncated {
		t.Error(short(got), n, err)
	}
}

// P17.1, P17.2: the longest values, and contents that are longer than any chunk.
func TestLargeValues(t *testing.T) {
	path := strings.Repeat("\n", 65536)
	l := []api.Node{file("a", 1, 1, strings.Repeat("large\x00", 200000)), file("b", 1, 1, strings.Repeat("large\x00", 200000)), symlink(path, path), file("c", 2, 0, x(1<<20)), file("d", 2, 0, x(1<<20+1))}
	wantAccepted(t, l, stream(l))
	deep := []api.Node{}
	for p := "d"; len(p) < 3000; p += "/d" {
		deep = append(deep, dir(p, len(p)))
	}
	wantAccepted(t, deep, stream(deep))
}

// P1: many members do not take time that grows with the square of their number.
func TestManyNodes(t *testing.T) {
	const n = 40000
	l := []api.Node{dir("d", 1)}
	for i := range n {
		l = append(l, file("d/"+strconv.Itoa(n+n-i), 1, 1+i/2, "data"))
	}
	b, err := archive.Encode(l)
	if size := 512 + n*512 + n/2*512 + 1024; len(b) != size || err != api.OK {
		t.Fatal(len(b), err)
	}
	if got, at, err := archive.Decode(b); !tree.Equal(got, l) || at != int64(len(b)) || err != api.OK {
		t.Error(len(got), at, err)
	}
}

// P1: no argument makes a function panic.
func TestNoPanic(t *testing.T) {
	ints := []int{math.MinInt, -1, 0, 1, 2, 3, 4, 4095, 4096, math.MaxInt}
	strs := []string{"", "/", ".", "a", "a/b", "\x00", "\xff\xfe", x(65536), x(65537), strings.Repeat("a/", 40000)}
	random := rand.New(rand.NewSource(5))
	pick := func() int { return ints[random.Intn(len(ints))] }
	str := func() string { return strs[random.Intn(len(strs))] }
	for range 500 {
		l := make([]api.Node, random.Intn(4))
		for i := range l {
			l[i] = api.Node{Kind: pick(), Path: str(), Mode: pick(), Target: str(), Data: []byte(str()), Class: pick()}
		}
		if _, err := tree.Check(l); err != api.OK {
			wantNotCreated(t, l, err)
		}
		script := api.Script{Chunks: ints[:random.Intn(len(ints))], FailAt: int64(pick())}
		archive.Create(l, sink.New(script))
		b := make([]byte, random.Intn(3000))
		random.Read(b)
		archive.Read(source.New(b, script))
		archive.Decode(b)
	}
}

// Rule 7: equal arguments have equal results.
func TestDeterminism(t *testing.T) {
	random := rand.New(rand.NewSource(6))
	for range 200 {
		b := spoil(random, stream(randomTree(random)))
		l, n, err := archive.Decode([]byte(b))
		again, m, other := archive.Decode([]byte(b))
		if !slices.Equal(texts(l), texts(again)) || n != m || err != other {
			t.Fatal(n, m, err, other)
		}
	}
}

// P2, rule 6: calls are independent of each other, also at the same time.
func TestConcurrentCalls(t *testing.T) {
	l := sample()
	b := stream(l)
	canon := tree.Canon(l)
	errors := map[string]api.Errno{b + "x": api.ErrTrailer, b[:700]: api.ErrTruncated, b[1:]: api.ErrChecksum}
	var group sync.WaitGroup
	for seed := range 8 {
		group.Go(func() {
			random := rand.New(rand.NewSource(int64(seed)))
			for range 30 {
				wantAccepted(t, l, b)
				wantRead(t, b, randomScript(random), seed, canon, len(b), api.OK)
				for s, err := range maps.All(errors) {
					if l, _, e := archive.Decode([]byte(s)); len(l) != 0 || e != err {
						t.Error(short(l), e, err)
					}
				}
				other := randomTree(random)
				wantAccepted(t, other, stream(other))
			}
		})
	}
	group.Wait()
}
