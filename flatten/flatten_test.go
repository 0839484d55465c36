package flatten_test

import (
	"archive/tar"
	"bytes"
	"fmt"
	"io"
	"math"
	"math/rand"
	"slices"
	"strconv"
	"strings"
	"sync"
	"testing"

	"paxtar/api"
	"paxtar/block"
	"paxtar/entry"
	"paxtar/flatten"
	"paxtar/payload"
	"paxtar/sink"
	"paxtar/tree"
)

const (
	maxOctal = 8589934591
	maxSize  = 1099511627776
	trailer  = 1024
)

// x returns a string of n bytes without a slash.
func x(n int) string { return strings.Repeat("x", n) }

func dir(path string, mode int) api.Node { return api.Node{Kind: api.Dir, Path: path, Mode: mode} }

func file(path string, mode, class int, data string) api.Node {
	return api.Node{Kind: api.File, Path: path, Mode: mode, Data: []byte(data), Class: class}
}

func symlink(path, target string) api.Node {
	return api.Node{Kind: api.Symlink, Path: path, Target: target}
}

func dirMember(path string, mode int) api.Member {
	return api.Member{Entry: api.Entry{Kind: api.Dir, Path: path, Mode: mode}}
}

func fileMember(path string, mode int, data string) api.Member {
	return api.Member{Entry: api.Entry{Kind: api.File, Path: path, Mode: mode, Size: int64(len(data))}, Data: []byte(data)}
}

func symlinkMember(path, target string) api.Member {
	return api.Member{Entry: api.Entry{Kind: api.Symlink, Path: path, Target: target}}
}

func linkMember(path string, mode int, target string) api.Member {
	return api.Member{Entry: api.Entry{Kind: api.Hardlink, Path: path, Mode: mode, Target: target}}
}

// of returns the members with these entries, without data.
func of(entries ...api.Entry) []api.Member {
	var l []api.Member
	for _, e := range entries {
		l = append(l, api.Member{Entry: e})
	}
	return l
}

// text shows a node or a member completely, and nil and empty data alike.
func text(v any) string {
	switch v := v.(type) {
	case api.Node:
		return fmt.Sprintf("%d %q %d %q %q %d", v.Kind, v.Path, v.Mode, v.Target, v.Data, v.Class)
	case api.Member:
		return fmt.Sprintf("%d %q %d %q %d %q", v.Entry.Kind, v.Entry.Path, v.Entry.Mode, v.Entry.Target, v.Entry.Size, v.Data)
	}
	panic(v)
}

func texts[T api.Node | api.Member](l []T) []string {
	var s []string
	for _, v := range l {
		s = append(s, text(v))
	}
	return s
}

func short[T api.Node | api.Member](l []T) string {
	s := fmt.Sprint(texts(l))
	if len(s) > 600 {
		s = s[:600] + "…"
	}
	return s
}

func wantMembers(t *testing.T, l []api.Node, want []api.Member) {
	t.Helper()
	before := texts(l)
	if m, n, err := flatten.Members(l); !slices.Equal(texts(m), texts(want)) || n != len(l) || err != api.OK {
		t.Errorf("Members(%s) = %s, %d, %v, want %s", short(l), short(m), n, err, short(want))
	}
	if !slices.Equal(texts(l), before) {
		t.Errorf("Members has changed %s", short(l))
	}
}

func wantNoMembers(t *testing.T, l []api.Node, index int, e api.Errno) {
	t.Helper()
	before := texts(l)
	if m, n, err := flatten.Members(l); len(m) != 0 || n != index || err != e {
		t.Errorf("Members(%s) = %s, %d, %v, want %d, %v", short(l), short(m), n, err, index, e)
	}
	if !slices.Equal(texts(l), before) {
		t.Errorf("Members has changed %s", short(l))
	}
}

func wantSize(t *testing.T, l []api.Member, size int64, e api.Errno) {
	t.Helper()
	before := texts(l)
	if n, err := flatten.Size(l...); n != size || err != e {
		t.Errorf("Size(%s) = %d, %v, want %d, %v", short(l), n, err, size, e)
	}
	if !slices.Equal(texts(l), before) {
		t.Errorf("Size has changed %s", short(l))
	}
}

// The examples of the chapter, and of DOC.md for this layer.
func TestExamples(t *testing.T) {
	m := []api.Member{fileMember("a", 1, "x"), linkMember("b", 1, "a")}
	wantMembers(t, []api.Node{file("b", 1, 1, "x"), file("a", 1, 1, "x")}, m)
	wantMembers(t, []api.Node{file("a", 1, 1, "x"), file("b", 1, 1, "x")}, m)
	wantSize(t, m, 512+512+512+trailer, api.OK)
	wantMembers(t, nil, nil)
	wantMembers(t, []api.Node{}, nil)
	wantSize(t, nil, trailer, api.OK)
	wantSize(t, []api.Member{}, trailer, api.OK)
	if n, err := flatten.Size(); n != trailer || err != api.OK {
		t.Error(n, err)
	}
	if n, err := flatten.Size(m[0], m[1]); n != 1536+trailer || err != api.OK {
		t.Error(n, err)
	}
}

// P14.1: each node becomes one member, with the values of its kind.
func TestKinds(t *testing.T) {
	for _, mode := range []int{0, 1, 0o644, 0o755, 4095} {
		wantMembers(t, []api.Node{dir("k", mode)}, []api.Member{dirMember("k", mode)})
		for _, data := range []string{"", "x", "\x00", x(511), x(512), x(513), strings.Repeat("\xff\x00", 5000)} {
			m := []api.Member{fileMember("k", mode, data)}
			for _, class := range []int{0, 1, 2, math.MaxInt} {
				wantMembers(t, []api.Node{file("k", mode, class, data)}, m)
			}
		}
		// A hard link has neither data nor a size, but the mode.
		wantMembers(t, []api.Node{file("k", mode, 3, "data"), file("l", mode, 3, "data")}, []api.Member{fileMember("k", mode, "data"), linkMember("l", mode, "k")})
	}
	for _, target := range []string{"t", "k", "/", "../..", "\xff", x(100), x(101), x(65536)} {
		wantMembers(t, []api.Node{symlink("k", target)}, []api.Member{symlinkMember("k", target)})
	}
	for _, path := range []string{"k", " ", "\xff", "...", "a\nb", x(100), x(101), x(65536)} {
		wantMembers(t, []api.Node{dir(path, 1)}, []api.Member{dirMember(path, 1)})
		wantMembers(t, []api.Node{file(path, 1, 0, "d")}, []api.Member{fileMember(path, 1, "d")})
		wantMembers(t, []api.Node{symlink(path, "t")}, []api.Member{symlinkMember(path, "t")})
		// The byte 1 is the least one of a path.
		wantMembers(t, []api.Node{file(path, 1, 7, "d"), file("\x01", 1, 7, "d")}, []api.Member{fileMember("\x01", 1, "d"), linkMember(path, 1, "\x01")})
		wantMembers(t, []api.Node{file("\xff\xff", 1, 7, "d"), file(path, 1, 7, "d")}, []api.Member{fileMember(path, 1, "d"), linkMember("\xff\xff", 1, path)})
	}
	// Empty data may be nil or not.
	wantMembers(t, []api.Node{{Kind: api.File, Path: "k"}, {Kind: api.Dir, Path: "d", Data: []byte{}}}, []api.Member{dirMember("d", 0), fileMember("k", 0, "")})
	wantMembers(t, []api.Node{{Kind: api.File, Path: "k", Class: 1}, {Kind: api.File, Path: "l", Class: 1, Data: []byte{}}}, []api.Member{fileMember("k", 0, ""), linkMember("l", 0, "k")})
}

// P14.1: the members are in bytewise order of the whole paths, whatever the order of the nodes is.
func TestOrderOfMembers(t *testing.T) {
	want := []api.Member{
		fileMember(" ", 0, ""), dirMember("A", 1), dirMember("a", 2), fileMember("a b", 3, "1"), symlinkMember("a-", "a"), symlinkMember("a.x", "a/b"),
		dirMember("a/b", 4), fileMember("a/b.c", 5, "2"), fileMember("a/b/c", 6, "3"), fileMember("a/c", 7, "4"), fileMember("a0", 8, "5"), dirMember("aa", 9),
		fileMember("aa/z", 10, "6"), fileMember("b", 11, "7"), symlinkMember("z", "\xff"), symlinkMember("é", "é"), fileMember("\xff", 12, "8"),
	}
	var l []api.Node
	for _, m := range want {
		l = append(l, api.Node{Kind: m.Entry.Kind, Path: m.Entry.Path, Mode: m.Entry.Mode, Target: m.Entry.Target, Data: m.Data})
	}
	wantMembers(t, l, want)
	slices.Reverse(l)
	wantMembers(t, l, want)
	random := rand.New(rand.NewSource(1))
	for range 200 {
		random.Shuffle(len(l), func(i, j int) { l[i], l[j] = l[j], l[i] })
		wantMembers(t, l, want)
	}
}

// P14.1: of a class, the file with the least path has the data, and it is the target of all the others.
func TestClasses(t *testing.T) {
	l := []api.Node{
		file("z", 1, 9, "data"), file("d/a", 1, 9, "data"), file("y", 2, 4, "data"), dir("d", 0o755), file("d.s", 1, 9, "data"), file("a", 2, 4, "data"),
		file("m", 1, 0, "data"), file("n", 1, 0, "data"), file("o", 1, 5, "data"), file("p", 1, math.MaxInt, ""), file("q", 1, math.MaxInt, ""), file("r", 1, math.MaxInt, ""),
	}
	want := []api.Member{
		fileMember("a", 2, "data"), dirMember("d", 0o755), fileMember("d.s", 1, "data"), linkMember("d/a", 1, "d.s"),
		fileMember("m", 1, "data"), fileMember("n", 1, "data"), fileMember("o", 1, "data"), fileMember("p", 1, ""), linkMember("q", 1, "p"), linkMember("r", 1, "p"),
		linkMember("y", 2, "a"), linkMember("z", 1, "d.s"),
	}
	random := rand.New(rand.NewSource(2))
	for range 300 {
		wantMembers(t, l, want)
		random.Shuffle(len(l), func(i, j int) { l[i], l[j] = l[j], l[i] })
	}
	// Neither equal data nor equal numbers in 32 bits make a class.
	wantMembers(t, []api.Node{file("a", 1, 1, "x"), file("b", 1, 1<<32+1, "x"), file("c", 1, 2, "x")}, []api.Member{fileMember("a", 1, "x"), fileMember("b", 1, "x"), fileMember("c", 1, "x")})
	// The least path is the least one of the class, not of the directory or of the list.
	wantMembers(t, []api.Node{dir("b", 1), file("b/a", 1, 2, "x"), file("c", 1, 2, "x"), file("a", 1, 1, "x")}, []api.Member{fileMember("a", 1, "x"), dirMember("b", 1), fileMember("b/a", 1, "x"), linkMember("c", 1, "b/a")})
}

// P14.1: the index and the error are those of tree.Check.
func TestInvalidTrees(t *testing.T) {
	good := []api.Node{dir("d", 1), file("d/f", 1, 1, "x"), symlink("s", "t")}
	wantMembers(t, good, []api.Member{dirMember("d", 1), fileMember("d/f", 1, "x"), symlinkMember("s", "t")})
	for _, c := range []struct {
		node api.Node
		err  api.Errno
	}{
		{api.Node{Kind: -1, Path: "k"}, api.ErrKind},
		{api.Node{Kind: api.Hardlink, Path: "k", Target: "d/f"}, api.ErrKind},
		{api.Node{Kind: api.Device, Path: "k"}, api.ErrKind},
		{api.Node{Kind: math.MaxInt, Path: "/"}, api.ErrKind},
		{dir("", 0), api.ErrSyntax}, {dir("/", -1), api.ErrSyntax}, {file("a/../b", 0, -1, ""), api.ErrSyntax}, {file("a\x00", 0, 0, ""), api.ErrSyntax},
		{dir(x(65537), 0), api.ErrTooLong}, {symlink(strings.Repeat("/", 65537), ""), api.ErrTooLong},
		{dir("k", -1), api.ErrMode}, {file("k", 4096, 0, ""), api.ErrMode}, {api.Node{Kind: api.Symlink, Path: "k", Target: "t", Mode: 1}, api.ErrMode},
		{api.Node{Kind: api.Dir, Path: "k", Target: "t"}, api.ErrArg}, {api.Node{Kind: api.File, Path: "k", Target: "t", Class: -1}, api.ErrArg},
		{symlink("k", ""), api.ErrSyntax}, {symlink("k", "\x00"), api.ErrSyntax}, {symlink("k", x(65537)), api.ErrTooLong},
		{api.Node{Kind: api.Dir, Path: "k", Data: []byte("x"), Class: 1}, api.ErrArg}, {api.Node{Kind: api.Symlink, Path: "k", Target: "t", Data: []byte("x")}, api.ErrArg},
		{file("k", 0, -1, ""), api.ErrLink}, {file("k", 0, math.MinInt, ""), api.ErrLink}, {api.Node{Kind: api.Dir, Path: "k", Class: 1}, api.ErrLink}, {api.Node{Kind: api.Symlink, Path: "k", Target: "t", Class: 2}, api.ErrLink},
		{dir("d", 1), api.ErrDuplicate}, {file("s", 1, 0, ""), api.ErrDuplicate}, {file("d/f", 1, 1, "x"), api.ErrDuplicate},
		{dir("no/k", 1), api.ErrParent}, {dir("s/k", 1), api.ErrParent}, {symlink("d/f/k", "t"), api.ErrParent}, {file("d/k/k", 1, 0, ""), api.ErrParent},
		{file("k", 2, 1, "x"), api.ErrLink}, {file("k", 1, 1, "y"), api.ErrLink}, {file("k", 1, 1, ""), api.ErrLink},
	} {
		wantNoMembers(t, slices.Concat(good, []api.Node{c.node}), 3, c.err)
		wantNoMembers(t, slices.Concat(good, []api.Node{c.node}, []api.Node{dir("e", 1), dir("d", 1)}), 3, c.err)
	}
	wantNoMembers(t, []api.Node{file("a/b", 1, 0, "x")}, 0, api.ErrParent)
	wantNoMembers(t, []api.Node{file("a", 1, 0, "x"), file("a/b", 1, 0, "x")}, 1, api.ErrParent)
	// A node that is invalid by itself counts before the relations of the earlier ones.
	wantNoMembers(t, []api.Node{file("a/b", 1, 0, "x"), dir("c", 1), dir("d", -1)}, 2, api.ErrMode)
}

// P14.1, rule 4: the data are new memory, and none of them share it.
func TestNewMemory(t *testing.T) {
	shared := []byte("data of both and of more files")
	nodes := func() []api.Node {
		return []api.Node{
			{Kind: api.File, Path: "c", Data: shared}, {Kind: api.File, Path: "b", Data: shared[:4], Class: 1}, {Kind: api.File, Path: "a", Data: shared[:4], Class: 1},
			{Kind: api.File, Path: "d", Data: shared[8:]}, {Kind: api.File, Path: "e", Data: shared[:0]},
		}
	}
	want := texts([]api.Member{fileMember("a", 0, "data"), linkMember("b", 0, "a"), fileMember("c", 0, string(shared)), fileMember("d", 0, string(shared[8:])), fileMember("e", 0, "")})
	l := nodes()
	before := texts(l)
	first, _, _ := flatten.Members(l)
	second, _, _ := flatten.Members(l)
	for i := range first {
		// Bytes beyond the length might be those of another slice.
		data := first[i].Data[:cap(first[i].Data)]
		for j := range data {
			data[j] = '!'
		}
		if !slices.Equal(texts(l), before) || !slices.Equal(texts(second), want) || !slices.Equal(texts(first[i+1:]), want[i+1:]) {
			t.Fatalf("the data of the member %d share memory", i)
		}
		first[i] = api.Member{}
	}
	if !slices.Equal(texts(second), want) {
		t.Error("the lists of two calls share memory")
	}
	for i := range shared {
		shared[i] = '?'
	}
	clear(l)
	if !slices.Equal(texts(second), want) {
		t.Error("the members share memory with the argument")
	}
}

// P14.1, rule 4: nodes beyond the length of the list do not count.
func TestBeyondTheLength(t *testing.T) {
	l := []api.Node{file("b", 1, 1, "x"), file("a", 1, 1, "x"), dir("/", -1), dir("c", 1)}
	before := texts(l)
	wantMembers(t, l[:1], []api.Member{fileMember("b", 1, "x")})
	wantMembers(t, l[:2], []api.Member{fileMember("a", 1, "x"), linkMember("b", 1, "a")})
	m := of(api.Entry{Path: "a"}, api.Entry{Path: "b"}, api.Entry{Path: "/"})
	wantSize(t, m[:1], 512+trailer, api.OK)
	wantSize(t, m[:2], 1024+trailer, api.OK)
	if !slices.Equal(texts(l), before) {
		t.Error(short(l))
	}
}

// P14.2: a file counts with its header and with the blocks of its size.
func TestSizeOfFiles(t *testing.T) {
	for _, c := range []struct{ size, want int64 }{
		{0, 512}, {1, 1024}, {2, 1024}, {511, 1024}, {512, 1024}, {513, 1536}, {1024, 1536}, {1025, 2048}, {1 << 20, 1<<20 + 512}, {1 << 31, 1<<31 + 512}, {1<<32 + 1, 1<<32 + 1024},
		{maxOctal - 1, 8589934592 + 512}, {maxOctal, 8589934592 + 512},
		// Beyond the greatest octal number there is a record, that is two further blocks.
		{maxOctal + 1, 8589934592 + 1536}, {maxOctal + 2, 8589934592 + 512 + 1536}, {maxSize - 1, maxSize + 1536}, {maxSize, maxSize + 1536},
	} {
		m := of(api.Entry{Kind: api.File, Path: "f", Size: c.size})
		wantSize(t, m, c.want+trailer, api.OK)
		wantSize(t, slices.Concat(m, m, m), 3*c.want+trailer, api.OK)
		// The size counts, not the data.
		m[0].Data = []byte(x(600))
		wantSize(t, m, c.want+trailer, api.OK)
	}
	// Nor do data of other kinds count.
	for _, e := range []api.Entry{{Kind: api.Dir, Path: "d"}, {Kind: api.Symlink, Path: "s", Target: "t"}, {Kind: api.Hardlink, Path: "h", Target: "f"}} {
		wantSize(t, []api.Member{{Entry: e, Data: []byte(x(600))}}, 512+trailer, api.OK)
	}
}

// P14.2: an entry counts with its records and their header.
func TestSizeOfEntries(t *testing.T) {
	for _, c := range []struct {
		e    api.Entry
		want int64
	}{
		{api.Entry{Kind: api.Dir, Path: x(100)}, 512},
		{api.Entry{Kind: api.Dir, Path: x(101)}, 1536},
		{api.Entry{Kind: api.Dir, Path: x(155) + "/" + x(100)}, 512},
		{api.Entry{Kind: api.Dir, Path: x(155) + "/" + x(101)}, 1536},
		{api.Entry{Kind: api.Dir, Path: x(156) + "/" + x(100)}, 1536},
		{api.Entry{Kind: api.Dir, Path: x(300)}, 1536},
		// The record of a path with n bytes of three digits has n + 10 bytes.
		{api.Entry{Kind: api.Dir, Path: x(502)}, 1536},
		{api.Entry{Kind: api.Dir, Path: x(503)}, 2048},
		{api.Entry{Kind: api.Symlink, Path: "s", Target: x(100)}, 512},
		{api.Entry{Kind: api.Symlink, Path: "s", Target: x(101)}, 1536},
		// The record of a target with n bytes of three digits has n + 14 bytes.
		{api.Entry{Kind: api.Hardlink, Path: "h", Target: x(498)}, 1536},
		{api.Entry{Kind: api.Hardlink, Path: "h", Target: x(499)}, 2048},
		// Two records share the blocks: 260 and 252, or 253, bytes.
		{api.Entry{Kind: api.Symlink, Path: x(250), Target: x(238)}, 1536},
		{api.Entry{Kind: api.Symlink, Path: x(250), Target: x(239)}, 2048},
		// These records have 65552 and 65548 bytes.
		{api.Entry{Kind: api.Symlink, Path: x(65536), Target: x(65536)}, 512 + 257*512 + 512},
		{api.Entry{Kind: api.File, Path: x(101), Size: maxSize}, 1536 + maxSize},
		// The record of this size has 22 bytes.
		{api.Entry{Kind: api.File, Path: x(480), Size: maxSize}, 1536 + maxSize},
		{api.Entry{Kind: api.File, Path: x(481), Size: maxSize}, 2048 + maxSize},
	} {
		wantSize(t, of(c.e), c.want+trailer, api.OK)
		wantSize(t, of(api.Entry{Path: "a"}, c.e, c.e), 512+2*c.want+trailer, api.OK)
	}
}

// invalidEntries are rejected by entry.Encode.
var invalidEntries = []struct {
	e   api.Entry
	err api.Errno
}{
	{api.Entry{Kind: -1, Path: "k"}, api.ErrKind}, {api.Entry{Kind: api.Device, Path: "/"}, api.ErrKind}, {api.Entry{Kind: 8}, api.ErrKind}, {api.Entry{Kind: math.MinInt, Size: math.MinInt64}, api.ErrKind},
	{api.Entry{}, api.ErrSyntax}, {api.Entry{Path: "/"}, api.ErrSyntax}, {api.Entry{Path: "a//b", Mode: -1}, api.ErrSyntax}, {api.Entry{Path: x(65537)}, api.ErrTooLong},
	{api.Entry{Path: "k", Mode: -1}, api.ErrMode}, {api.Entry{Path: "k", Mode: 4096, Target: "t"}, api.ErrMode}, {api.Entry{Kind: api.Symlink, Path: "k", Mode: 1, Target: "t"}, api.ErrMode},
	{api.Entry{Path: "k", Target: "t"}, api.ErrArg}, {api.Entry{Kind: api.File, Path: "k", Target: "t", Size: -1}, api.ErrArg},
	{api.Entry{Kind: api.Symlink, Path: "k"}, api.ErrSyntax}, {api.Entry{Kind: api.Symlink, Path: "k", Target: x(65537)}, api.ErrTooLong},
	{api.Entry{Kind: api.Hardlink, Path: "k"}, api.ErrSyntax}, {api.Entry{Kind: api.Hardlink, Path: "k", Target: "/"}, api.ErrSyntax}, {api.Entry{Kind: api.Hardlink, Path: "k", Target: x(65537), Size: 1}, api.ErrTooLong},
	{api.Entry{Kind: api.File, Path: "k", Size: -1}, api.ErrRange}, {api.Entry{Kind: api.File, Path: "k", Size: maxSize + 1}, api.ErrRange}, {api.Entry{Kind: api.File, Path: "k", Size: math.MaxInt64}, api.ErrRange}, {api.Entry{Kind: api.File, Path: "k", Size: math.MinInt64}, api.ErrRange},
	{api.Entry{Path: "k", Size: 1}, api.ErrArg}, {api.Entry{Kind: api.Symlink, Path: "k", Target: "t", Size: -1}, api.ErrArg}, {api.Entry{Kind: api.Hardlink, Path: "k", Target: "t", Size: 512}, api.ErrArg},
}

// P14.2: the error is that of the first member with an invalid entry; then there is no size.
func TestInvalidMembers(t *testing.T) {
	good := of(api.Entry{Path: "a"}, api.Entry{Kind: api.File, Path: "b", Size: 600}, api.Entry{Kind: api.Hardlink, Path: "c", Target: "b"})
	wantSize(t, good, 3*512+1024+trailer, api.OK)
	for _, a := range invalidEntries {
		if _, err := entry.Encode(a.e); err != a.err {
			t.Fatal(a, err)
		}
		bad := of(a.e)
		wantSize(t, bad, 0, a.err)
		wantSize(t, slices.Concat(bad, good), 0, a.err)
		wantSize(t, slices.Concat(good, bad), 0, a.err)
		for _, b := range invalidEntries {
			wantSize(t, slices.Concat(good, bad, good, of(b.e)), 0, a.err)
		}
	}
}

// P14.2: the members need not be those of a tree, each entry counts for itself.
func TestSizeOfArbitraryMembers(t *testing.T) {
	wantSize(t, of(api.Entry{Path: "b/b"}, api.Entry{Path: "a"}, api.Entry{Path: "a"}, api.Entry{Kind: api.Hardlink, Path: "a", Target: "none"}), 4*512+trailer, api.OK)
	// The sum may be far greater than the size of a file.
	var l []api.Member
	for range 5000 {
		l = append(l, of(api.Entry{Kind: api.File, Path: "f", Size: maxSize})...)
	}
	wantSize(t, l, 5000*(maxSize+1536)+trailer, api.OK)
}

// line returns an encoded record: the first length that is consistent.
func line(key, value string) string {
	rest := " " + key + "=" + value + "\n"
	for n := len(rest); ; n++ {
		if s := strconv.Itoa(n); len(s)+len(rest) == n {
			return s + rest
		}
	}
}

// fits is the condition of layer 10 for a path without a record.
func fits(path string) bool {
	for i := range path {
		if path[i] == '/' && i >= 1 && i <= 155 && len(path)-i-1 >= 1 && len(path)-i-1 <= 100 {
			return true
		}
	}
	return len(path) <= 100
}

// size is P14.2 for a list of valid entries, from the chapters 10 to 12.
func size(l []api.Member) int64 {
	blocks := 2
	for _, m := range l {
		records := ""
		if len(m.Entry.Target) > 100 {
			records += line("linkpath", m.Entry.Target)
		}
		if !fits(m.Entry.Path) {
			records += line("path", m.Entry.Path)
		}
		if m.Entry.Size > maxOctal {
			records += line("size", strconv.FormatInt(m.Entry.Size, 10))
		}
		if records != "" {
			blocks += 1 + (len(records)+511)/512
		}
		blocks += 1 + int((m.Entry.Size+511)/512)
	}
	return int64(blocks) * 512
}

// members is the chapter's introduction: the members of the nodes in the order of their paths, each found by looking through the whole list.
func members(l []api.Node) []api.Member {
	var paths []string
	for _, n := range l {
		paths = append(paths, n.Path)
	}
	slices.Sort(paths)
	var result []api.Member
	for _, p := range paths {
		n := l[slices.IndexFunc(l, func(n api.Node) bool { return n.Path == p })]
		least := p
		for _, m := range l {
			if n.Class > 0 && m.Class == n.Class && m.Path < least {
				least = m.Path
			}
		}
		switch {
		case n.Kind == api.Dir:
			result = append(result, dirMember(p, n.Mode))
		case n.Kind == api.Symlink:
			result = append(result, symlinkMember(p, n.Target))
		case least == p:
			result = append(result, fileMember(p, n.Mode, string(n.Data)))
		default:
			result = append(result, linkMember(p, n.Mode, least))
		}
	}
	return result
}

// randomTree returns a valid tree in a random order.
func randomTree(random *rand.Rand) []api.Node {
	var l []api.Node
	parents := []string{""}
	used := map[string]bool{}
	classes := []int{1, 2, 5, 1 << 40, math.MaxInt}
	for range random.Intn(30) {
		p := parents[random.Intn(len(parents))] + []string{"a", "b", "a.x", "A", "\xff", "0", x(60), x(101)}[random.Intn(8)]
		if used[p] {
			continue
		}
		used[p] = true
		switch random.Intn(4) {
		case 0:
			l = append(l, dir(p, random.Intn(4096)))
			parents = append(parents, p+"/")
		case 1:
			l = append(l, symlink(p, strings.Repeat(p, 1+random.Intn(3))))
		case 2:
			l = append(l, file(p, random.Intn(4096), 0, x(random.Intn(1100))))
		default:
			i := random.Intn(len(classes))
			l = append(l, file(p, i, classes[i], x(i*300)))
		}
	}
	random.Shuffle(len(l), func(i, j int) { l[i], l[j] = l[j], l[i] })
	return l
}

// P14.1, P14.2: random trees against the model that is written from the chapters.
func TestAgainstTheChapter(t *testing.T) {
	random := rand.New(rand.NewSource(3))
	kinds := map[int]int{}
	for range 10000 {
		l := randomTree(random)
		want := members(l)
		wantMembers(t, l, want)
		wantSize(t, want, size(want), api.OK)
		// The members depend on the tree alone.
		wantMembers(t, tree.Canon(l), want)
		for _, m := range want {
			kinds[m.Entry.Kind]++
		}
		if t.Failed() {
			return
		}
	}
	for kind := range 4 {
		if kinds[kind] < 5000 {
			t.Errorf("only %d members of kind %d", kinds[kind], kind)
		}
	}
}

// wantConsequences checks P14.3.
func wantConsequences(t *testing.T, l []api.Member) {
	t.Helper()
	earlier := map[string]api.Entry{}
	for i, m := range l {
		e := m.Entry
		if i > 0 && e.Path <= l[i-1].Entry.Path {
			t.Errorf("%q follows %q", e.Path, l[i-1].Entry.Path)
		}
		if at := strings.LastIndex(e.Path, "/"); at >= 0 {
			if p, ok := earlier[e.Path[:at]]; !ok || p.Kind != api.Dir {
				t.Errorf("%q precedes its parent", e.Path)
			}
		}
		if f, ok := earlier[e.Target]; e.Kind == api.Hardlink && (!ok || f.Kind != api.File || f.Mode != e.Mode) {
			t.Errorf("%q is a hard link to %q, which is %v", e.Path, e.Target, f)
		}
		earlier[e.Path] = e
	}
}

// P14.3: the members are in an order in which each of them depends on earlier ones only.
func TestConsequences(t *testing.T) {
	random := rand.New(rand.NewSource(8))
	for range 3000 {
		l := randomTree(random)
		m, n, err := flatten.Members(l)
		if len(m) != len(l) || n != len(l) || err != api.OK {
			t.Fatal(short(l), n, err)
		}
		wantConsequences(t, m)
		if t.Failed() {
			return
		}
	}
}

// spoil makes a node or its relations to the others invalid, as a rule.
func spoil(random *rand.Rand, l []api.Node) {
	n := &l[random.Intn(len(l))]
	switch random.Intn(6) {
	case 0:
		n.Kind = random.Intn(7) - 1
	case 1:
		n.Mode = []int{-1, 0, 4095, 4096}[random.Intn(4)]
	case 2:
		n.Target = []string{"", "t", "\x00"}[random.Intn(3)]
	case 3:
		n.Data = []byte("x")
	case 4:
		n.Class = random.Intn(4) - 1
	case 5:
		n.Path = []string{"", "a", "b/a", "a//b"}[random.Intn(4)]
	}
}

// P14.1: there are members just where tree.Check returns OK.
func TestErrorsOfCheck(t *testing.T) {
	random := rand.New(rand.NewSource(4))
	results := map[api.Errno]int{}
	for range 20000 {
		l := randomTree(random)
		if len(l) == 0 {
			continue
		}
		spoil(random, l)
		i, err := tree.Check(l)
		results[err]++
		if err == api.OK {
			wantMembers(t, l, members(l))
		} else {
			wantNoMembers(t, l, i, err)
		}
		if t.Failed() {
			return
		}
	}
	for _, e := range []api.Errno{api.OK, api.ErrKind, api.ErrSyntax, api.ErrMode, api.ErrArg, api.ErrLink, api.ErrDuplicate, api.ErrParent} {
		if results[e] < 50 {
			t.Errorf("only %d lists with the result %v", results[e], e)
		}
	}
}

// stream returns the canonical archive of members.
func stream(l []api.Member) []byte {
	s := sink.New(api.Script{FailAt: -1})
	w := block.NewWriter(s)
	for _, m := range l {
		b, _ := entry.Encode(m.Entry)
		w.Write(b)
		payload.Write(w, m.Data)
	}
	w.Zeros(2)
	return s.Bytes()
}

// P14.2: the size is the length of the archive, which other programs can read.
func TestStream(t *testing.T) {
	types := []byte{tar.TypeDir, tar.TypeReg, tar.TypeSymlink, tar.TypeLink}
	random := rand.New(rand.NewSource(5))
	for range 500 {
		l, _, _ := flatten.Members(randomTree(random))
		b := stream(l)
		wantSize(t, l, int64(len(b)), api.OK)
		r := tar.NewReader(bytes.NewReader(b))
		for _, m := range l {
			h, err := r.Next()
			if err != nil {
				t.Fatal(err)
			}
			data, err := io.ReadAll(r)
			got := fmt.Sprintf("%c %q %d %q %d %q", h.Typeflag, h.Name, h.Mode, h.Linkname, h.Size, data)
			want := fmt.Sprintf("%c %q %d %q %d %q", types[m.Entry.Kind], m.Entry.Path, m.Entry.Mode, m.Entry.Target, m.Entry.Size, m.Data)
			if got != want || err != nil {
				t.Fatal(got, want, err)
			}
		}
		if _, err := r.Next(); err != io.EOF {
			t.Fatal(err)
		}
	}
}

// P1: large lists do not take time that grows with the square of their length.
func TestManyNodes(t *testing.T) {
	const n = 100000
	l := []api.Node{dir("d", 1)}
	for i := range n {
		l = append(l, file("d/"+strconv.Itoa(n+n-i), 1, 1+i/2, "data"))
	}
	m, count, err := flatten.Members(l)
	if len(m) != n+1 || count != n+1 || err != api.OK {
		t.Fatal(len(m), count, err)
	}
	for i := 1; i < n; i += 2 {
		if m[i].Entry.Kind != api.File || m[i+1].Entry.Kind != api.Hardlink || m[i+1].Entry.Target != m[i].Entry.Path {
			t.Fatal(i, m[i], m[i+1])
		}
	}
	if size, err := flatten.Size(m...); size != 512+n*512+n/2*512+trailer || err != api.OK {
		t.Error(size, err)
	}
}

// P1: no argument makes a function panic.
func TestNoPanic(t *testing.T) {
	ints := []int{math.MinInt, -1, 0, 1, 2, 3, 4, 4095, 4096, math.MaxInt}
	sizes := []int64{math.MinInt64, -1, 0, 1, 512, maxOctal + 1, maxSize, maxSize + 1, math.MaxInt64}
	strs := []string{"", "/", ".", "a", "a/b", "\x00", "\xff\xfe", x(65536), x(65537), strings.Repeat("a/", 40000)}
	random := rand.New(rand.NewSource(6))
	pick := func() int { return ints[random.Intn(len(ints))] }
	str := func() string { return strs[random.Intn(len(strs))] }
	for range 300 {
		l := make([]api.Node, random.Intn(4))
		m := make([]api.Member, random.Intn(4))
		for i := range l {
			l[i] = api.Node{Kind: pick(), Path: str(), Mode: pick(), Target: str(), Data: []byte(str()), Class: pick()}
		}
		for i := range m {
			m[i] = api.Member{Entry: api.Entry{Kind: pick(), Path: str(), Mode: pick(), Target: str(), Size: sizes[random.Intn(len(sizes))]}, Data: []byte(str())}
		}
		if i, err := tree.Check(l); err != api.OK {
			wantNoMembers(t, l, i, err)
		}
		if n, err := flatten.Size(m...); err != api.OK && n != 0 || err == api.OK && n != size(m) {
			t.Errorf("Size(%s) = %d, %v", short(m), n, err)
		}
	}
}

// P2, rule 6: calls are independent of each other, also at the same time.
func TestConcurrentCalls(t *testing.T) {
	shared := randomTree(rand.New(rand.NewSource(7)))
	want := members(shared)
	var group sync.WaitGroup
	for seed := range 8 {
		group.Go(func() {
			random := rand.New(rand.NewSource(int64(seed)))
			for range 200 {
				l := randomTree(random)
				wantMembers(t, l, members(l))
				wantMembers(t, shared, want)
				wantSize(t, want, size(want), api.OK)
			}
		})
	}
	group.Wait()
}
