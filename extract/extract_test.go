package extract_test

import (
	"bytes"
	"fmt"
	"math"
	"math/rand"
	"slices"
	"strconv"
	"strings"
	"sync"
	"testing"

	"paxtar/api"
	"paxtar/archive"
	"paxtar/extract"
	"paxtar/sink"
	"paxtar/source"
	"paxtar/tree"
	"paxtar/vfs"
	"paxtar/walk"
)

const (
	maxPath   = 65536
	maxNumber = 1000000
)

// plain are the options of a file system with the inode numbers 1, 2, and so on, and sorted listings.
var plain = vfs.Options{First: 1, Step: 1}

// options are those of several file systems.
var options = []vfs.Options{
	plain,
	{First: 100, Step: 10, Rotate: []int{3}},
	{First: maxNumber, Step: maxNumber, Rotate: []int{0, 1, 2, 5}},
	{First: 7, Step: 1, Rotate: []int{math.MaxInt, math.MaxInt - 1}},
}

// always is the script of a source or a sink that never fails.
var always = api.Script{FailAt: -1}

// x returns a string of n bytes without a slash.
func x(n int) string { return strings.Repeat("x", n) }

func zeros(n int) string { return strings.Repeat("\x00", n) }

func cut(s string) string {
	if len(s) > 600 {
		s = s[:600] + "…"
	}
	return s
}

// show returns a text with all fields of nodes.
func show(l []api.Node) string {
	var text strings.Builder
	for _, n := range l {
		fmt.Fprintf(&text, "{%d %q %o %q %q %d}", n.Kind, n.Path, n.Mode, n.Target, n.Data, n.Class)
	}
	return text.String()
}

func dir(path string, mode int) api.Node { return api.Node{Kind: api.Dir, Path: path, Mode: mode} }

func file(path string, mode, class int, data string) api.Node {
	return api.Node{Kind: api.File, Path: path, Mode: mode, Data: []byte(data), Class: class}
}

func symlink(path, target string) api.Node {
	return api.Node{Kind: api.Symlink, Path: path, Target: target}
}

// sample is a tree with all kinds of nodes, in no particular order. Files with equal contents need not be one.
func sample() []api.Node {
	return []api.Node{
		file("z", 0o644, 9, "abc"),
		file("d/d/b", 0o644, 9, "abc"),
		symlink("d/d/s", "../../a"),
		dir("d/d", 0),
		file("e", 0o644, 3, "abc"),
		dir("d", 0o750),
		file("d.", 0o600, 2, ""),
		file("d/a", 0o644, 0, "abc"),
		file("a", 0o644, 9, "abc"),
		file("d0", 0o644, 3, "abc"),
		symlink("s", "d"),
		file("d/e", 0o600, 2, ""),
		file("f", 0o4755, 5, "alone"),
	}
}

// canonicalSample is the canonical form of the sample.
func canonicalSample() []api.Node {
	return []api.Node{
		file("a", 0o644, 1, "abc"),
		dir("d", 0o750),
		file("d.", 0o600, 2, ""),
		file("d/a", 0o644, 0, "abc"),
		dir("d/d", 0),
		file("d/d/b", 0o644, 1, "abc"),
		symlink("d/d/s", "../../a"),
		file("d/e", 0o600, 2, ""),
		file("d0", 0o644, 3, "abc"),
		file("e", 0o644, 3, "abc"),
		file("f", 0o4755, 0, "alone"),
		symlink("s", "d"),
		file("z", 0o644, 1, "abc"),
	}
}

func want(t *testing.T, got, want api.Errno) {
	t.Helper()
	if got != want {
		t.Errorf("%v, want %v", got, want)
	}
}

func empty(t *testing.T, o vfs.Options) *vfs.FS {
	t.Helper()
	f, err := vfs.New(o)
	if f == nil || err != api.OK {
		t.Fatalf("New(%v) = %v, %v", o, f, err)
	}
	return f
}

// marked returns an empty file system whose root directory has an owner and a time.
func marked(t *testing.T, o vfs.Options) *vfs.FS {
	t.Helper()
	f := empty(t, o)
	want(t, f.Chown("", 5, 6), api.OK)
	return f
}

func encoded(t *testing.T, l ...api.Node) string {
	t.Helper()
	b, err := archive.Encode(l)
	want(t, err, api.OK)
	return string(b)
}

// packed returns the archive of a file system.
func packed(t *testing.T, f *vfs.FS) string {
	t.Helper()
	s := sink.New(always)
	if path, err := walk.Pack(f, s); path != "" || err != api.OK {
		t.Errorf("Pack() = %q, %v", cut(path), err)
	}
	return string(s.Bytes())
}

func from(b string, script api.Script) *source.Source { return source.New([]byte(b), script) }

// content is what a path of a file system leads to.
type content struct {
	path string
	info vfs.Info
	data string
}

// contents returns what a file system contains, the root directory included, in ascending order of the paths.
func contents(t *testing.T, f *vfs.FS) []content {
	t.Helper()
	paths, err := walk.Paths(f)
	want(t, err, api.OK)
	var l []content
	for _, path := range append([]string{""}, paths...) {
		info, err := f.Lstat(path)
		want(t, err, api.OK)
		data := []byte(nil)
		if info.Kind == api.File {
			data, err = f.ReadFile(path)
			want(t, err, api.OK)
		}
		l = append(l, content{path, info, string(data)})
	}
	return l
}

// expected returns what a marked file system contains after the tree has been created in it, as the chapters 19 and 21 say.
func expected(o vfs.Options, l []api.Node) []content {
	root := vfs.Info{Kind: api.Dir, Mode: 0o755, Inode: o.First, Links: 1, Uid: 5, Mtime: 6}
	wanted := []content{{"", root, ""}}
	inodes := map[string]int{}
	for _, n := range sorted(l) {
		i := vfs.Info{Kind: n.Kind, Mode: n.Mode, Target: n.Target, Size: int64(len(n.Data))}
		if n.Kind == api.Symlink {
			i.Mode = 0o777
		}
		links := linksTo(n, l)
		i.Links = len(links)
		least := slices.Min(links)
		if least == n.Path {
			inodes[n.Path] = o.First + (len(inodes)+1)*o.Step
		}
		i.Inode = inodes[least]
		wanted = append(wanted, content{n.Path, i, string(n.Data)})
	}
	return wanted
}

func sorted(l []api.Node) []api.Node {
	l = slices.Clone(l)
	slices.SortFunc(l, func(a, b api.Node) int { return bytes.Compare([]byte(a.Path), []byte(b.Path)) })
	return l
}

// linksTo returns the paths of the nodes of a tree that are one file with a node.
func linksTo(n api.Node, l []api.Node) []string {
	paths := []string{n.Path}
	for _, other := range l {
		if other.Class == n.Class && n.Class > 0 && other.Path != n.Path {
			paths = append(paths, other.Path)
		}
	}
	return paths
}

// wantContents checks what a file system contains, and which inode number it gives to the next file, which it then has.
func wantContents(t *testing.T, f *vfs.FS, o vfs.Options, wanted []content) {
	t.Helper()
	got := contents(t, f)
	if !slices.Equal(got, wanted) {
		t.Errorf("the file system contains\n%s, want\n%s", cut(fmt.Sprintf("%+v", got)), cut(fmt.Sprintf("%+v", wanted)))
		return
	}
	greatest := 0
	for _, c := range wanted {
		greatest = max(greatest, c.info.Inode)
	}
	want(t, f.Mkdir("the next file", 0), api.OK)
	if i, err := f.Lstat("the next file"); i.Inode != greatest+o.Step || err != api.OK {
		t.Errorf("the next inode number is %d, want %d", i.Inode, greatest+o.Step)
	}
}

// wantCreated checks that Tree and Archive create exactly the files of the tree.
func wantCreated(t *testing.T, o vfs.Options, l ...api.Node) {
	t.Helper()
	f := marked(t, o)
	if err := extract.Tree(l, f); err != api.OK {
		t.Fatalf("Tree(%s) = %v", cut(show(l)), err)
	}
	wantContents(t, f, o, expected(o, l))

	f = marked(t, o)
	stream := encoded(t, l...)
	if n, err := extract.Archive(from(stream, always), f); n != int64(len(stream)) || err != api.OK {
		t.Fatalf("Archive() = %d, %v with the archive of %s", n, err, cut(show(l)))
	}
	wantContents(t, f, o, expected(o, l))
}

// wantInvalid checks that Tree returns an error, and leaves a file system as empty as it was.
func wantInvalid(t *testing.T, want api.Errno, l ...api.Node) {
	t.Helper()
	for _, o := range options {
		f := marked(t, o)
		for range 3 {
			if err := extract.Tree(l, f); err != want {
				t.Errorf("Tree(%s) = %v, want %v", cut(show(l)), err, want)
			}
		}
		wantContents(t, f, o, expected(o, nil))
	}
	if _, err := tree.Check(l); err != want {
		t.Errorf("Check(%s) = %v, want %v", cut(show(l)), err, want)
	}
}

// wantRejected checks that Archive returns an offset and an error, and leaves a file system as empty as it was.
func wantRejected(t *testing.T, b string, script api.Script, at int, want api.Errno) {
	t.Helper()
	o := options[at%len(options)]
	f, s := marked(t, o), from(b, script)
	if n, err := extract.Archive(s, f); n != int64(at) || err != want {
		t.Errorf("Archive() = %d, %v, want %d, %v", n, err, at, want)
	}
	// All that was read is what archive.Read reads.
	other := from(b, script)
	if _, n, err := archive.Read(other); n != int64(at) || err != want {
		t.Errorf("Read() = %d, %v, want %d, %v", n, err, at, want)
	}
	if s.Offset() != other.Offset() || s.Reads() != other.Reads() {
		t.Errorf("Archive has read %d bytes by %d reads, Read %d by %d", s.Offset(), s.Reads(), other.Offset(), other.Reads())
	}
	wantContents(t, f, o, expected(o, nil))
}

// The chapter's example.
func TestExample(t *testing.T) {
	b := encoded(t, file("a", 0o644, 1, "data"), file("b", 0o644, 1, "data"))
	f := empty(t, plain)
	if n, err := extract.Archive(from(b, always), f); n != 2560 || err != api.OK {
		t.Errorf("Archive() = %d, %v", n, err)
	}
	for _, path := range []string{"a", "b"} {
		if i, err := f.Lstat(path); i != (vfs.Info{Kind: api.File, Mode: 0o644, Inode: 2, Links: 2, Size: 4}) || err != api.OK {
			t.Errorf("Lstat(%q) = %+v, %v", path, i, err)
		}
		if data, err := f.ReadFile(path); string(data) != "data" || err != api.OK {
			t.Errorf("ReadFile(%q) = %q, %v", path, data, err)
		}
	}
	if paths, err := walk.Paths(f); !slices.Equal(paths, []string{"a", "b"}) || err != api.OK {
		t.Errorf("%q, %v", paths, err)
	}
}

// P21.1: what a file system contains afterwards is written down, in the order in which it was created.
func TestTree(t *testing.T) {
	f := empty(t, vfs.Options{First: 100, Step: 10, Rotate: []int{1}})
	want(t, extract.Tree(sample(), f), api.OK)
	wanted := []content{
		{"", vfs.Info{Kind: api.Dir, Mode: 0o755, Inode: 100, Links: 1}, ""},
		{"a", vfs.Info{Kind: api.File, Mode: 0o644, Inode: 110, Links: 3, Size: 3}, "abc"},
		{"d", vfs.Info{Kind: api.Dir, Mode: 0o750, Inode: 120, Links: 1}, ""},
		{"d.", vfs.Info{Kind: api.File, Mode: 0o600, Inode: 130, Links: 2}, ""},
		{"d/a", vfs.Info{Kind: api.File, Mode: 0o644, Inode: 140, Links: 1, Size: 3}, "abc"},
		{"d/d", vfs.Info{Kind: api.Dir, Mode: 0, Inode: 150, Links: 1}, ""},
		{"d/d/b", vfs.Info{Kind: api.File, Mode: 0o644, Inode: 110, Links: 3, Size: 3}, "abc"},
		{"d/d/s", vfs.Info{Kind: api.Symlink, Mode: 0o777, Inode: 160, Links: 1, Target: "../../a"}, ""},
		{"d/e", vfs.Info{Kind: api.File, Mode: 0o600, Inode: 130, Links: 2}, ""},
		{"d0", vfs.Info{Kind: api.File, Mode: 0o644, Inode: 170, Links: 2, Size: 3}, "abc"},
		{"e", vfs.Info{Kind: api.File, Mode: 0o644, Inode: 170, Links: 2, Size: 3}, "abc"},
		{"f", vfs.Info{Kind: api.File, Mode: 0o4755, Inode: 180, Links: 1, Size: 5}, "alone"},
		{"s", vfs.Info{Kind: api.Symlink, Mode: 0o777, Inode: 190, Links: 1, Target: "d"}, ""},
		{"z", vfs.Info{Kind: api.File, Mode: 0o644, Inode: 110, Links: 3, Size: 3}, "abc"},
	}
	wantContents(t, f, vfs.Options{Step: 10}, wanted)
	for _, o := range options {
		wantCreated(t, o, sample()...)
		wantCreated(t, o, canonicalSample()...)
	}
}

// P21.1, P21.2: the empty tree.
func TestEmptyTree(t *testing.T) {
	for _, o := range options {
		wantCreated(t, o)
		f := marked(t, o)
		for range 3 {
			want(t, extract.Tree(nil, f), api.OK)
			want(t, extract.Tree([]api.Node{}, f), api.OK)
			if n, err := extract.Archive(from(zeros(1024), always), f); n != 1024 || err != api.OK {
				t.Errorf("Archive() = %d, %v", n, err)
			}
		}
		// The file system is still empty, and thus usable.
		want(t, extract.Tree(sample(), f), api.OK)
		wantContents(t, f, o, expected(o, sample()))
	}
}

// nonEmpty returns file systems with one file in the root directory each, and one with many.
func nonEmpty(t *testing.T) []*vfs.FS {
	t.Helper()
	var l []*vfs.FS
	for _, o := range options {
		made := make([]*vfs.FS, 5)
		for i := range made {
			made[i] = marked(t, o)
		}
		want(t, made[0].Mkdir("d", 0), api.OK)
		want(t, made[1].Create("a", 0, nil), api.OK)
		want(t, made[2].Symlink("s", "t"), api.OK)
		want(t, made[3].Mknod("n", 0), api.OK)
		want(t, extract.Tree(sample(), made[4]), api.OK)
		l = append(l, made...)
	}
	return l
}

// trees are valid and invalid ones.
func trees() [][]api.Node {
	return [][]api.Node{nil, sample(), {dir("new", 0)}, {dir("d", 0), file("d/new", 0, 0, "")}, {file("d/new", 0, 0, "")}, {{Kind: 9}}, {{}}}
}

// P21.1: a nil file system, with valid and invalid trees.
func TestNilFileSystem(t *testing.T) {
	for _, l := range trees() {
		want(t, extract.Tree(l, nil), api.ErrNil)
	}
}

// P21.1: a root directory that is not empty precedes the errors of the tree.
func TestTreeState(t *testing.T) {
	for _, f := range nonEmpty(t) {
		before := contents(t, f)
		for _, l := range trees() {
			want(t, extract.Tree(l, f), api.ErrState)
		}
		if after := contents(t, f); !slices.Equal(after, before) {
			t.Errorf("%+v has become %+v", before, after)
		}
	}
}

// P21.2: nil arguments precede everything else.
func TestArchiveNil(t *testing.T) {
	for _, b := range []string{"", "a", zeros(1024), encoded(t, sample()...)} {
		for _, script := range []api.Script{always, {FailAt: 0}, {Chunks: []int{7}, FailAt: 600}} {
			s := from(b, script)
			if n, err := extract.Archive(s, nil); n != 0 || err != api.ErrNil || s.Offset() != 0 || s.Reads() != 0 {
				t.Errorf("Archive() = %d, %v with %d bytes read", n, err, s.Offset())
			}
		}
	}
	for _, f := range append(nonEmpty(t), nil, marked(t, plain)) {
		var before []content
		if f != nil {
			before = contents(t, f)
		}
		if n, err := extract.Archive(nil, f); n != 0 || err != api.ErrNil {
			t.Errorf("Archive() = %d, %v", n, err)
		}
		if f != nil && !slices.Equal(contents(t, f), before) {
			t.Errorf("%+v has changed", before)
		}
	}
}

// P21.2: with a root directory that is not empty, nothing is read, whether it is an archive, and whether the source fails.
func TestArchiveState(t *testing.T) {
	streams := []string{"", "a", zeros(512), zeros(1024), encoded(t, sample()...), encoded(t, dir("new", 0)), x(512)}
	for _, f := range nonEmpty(t) {
		before := contents(t, f)
		for _, b := range streams {
			for _, script := range []api.Script{always, {FailAt: 0}, {Chunks: []int{7}, FailAt: 600}} {
				s := from(b, script)
				if n, err := extract.Archive(s, f); n != 0 || err != api.ErrState {
					t.Errorf("Archive() = %d, %v", n, err)
				}
				if s.Offset() != 0 || s.Reads() != 0 {
					t.Errorf("%d bytes have been read by %d reads", s.Offset(), s.Reads())
				}
				if _, err := s.Read(1); (err == api.OK) != (b != "" && script.FailAt != 0) {
					t.Errorf("then, Read(1) = %v", err)
				}
			}
		}
		if after := contents(t, f); !slices.Equal(after, before) {
			t.Errorf("%+v has become %+v", before, after)
		}
	}
}

// with returns a node that is changed by a function.
func with(n api.Node, change func(n *api.Node)) api.Node {
	change(&n)
	return n
}

// P21.1: nodes that are invalid by themselves. The nodes before them are not created.
func TestInvalidNodes(t *testing.T) {
	for _, c := range []struct {
		n   api.Node
		err api.Errno
	}{
		{api.Node{Kind: -1, Path: "k"}, api.ErrKind},
		{api.Node{Kind: api.Hardlink, Path: "k", Target: "a"}, api.ErrKind},
		{api.Node{Kind: api.Device, Path: "k"}, api.ErrKind},
		{api.Node{Kind: math.MaxInt, Path: "k"}, api.ErrKind},
		{api.Node{Kind: math.MinInt, Path: "k"}, api.ErrKind},
		{api.Node{}, api.ErrSyntax},
		{dir("/k", 0), api.ErrSyntax},
		{dir("d/", 0), api.ErrSyntax},
		{file("d//k", 0, 0, ""), api.ErrSyntax},
		{file("d/../k", 0, 0, ""), api.ErrSyntax},
		{symlink(".", "a"), api.ErrSyntax},
		{symlink("k\x00", "a"), api.ErrSyntax},
		{dir(x(maxPath+1), 0), api.ErrTooLong},
		{dir("k", -1), api.ErrMode},
		{dir("k", 4096), api.ErrMode},
		{file("k", 4096, 0, ""), api.ErrMode},
		{file("k", math.MinInt, 0, ""), api.ErrMode},
		{with(symlink("k", "a"), func(n *api.Node) { n.Mode = 0o777 }), api.ErrMode},
		{with(dir("k", 0), func(n *api.Node) { n.Target = "a" }), api.ErrArg},
		{with(file("k", 0, 0, ""), func(n *api.Node) { n.Target = "a" }), api.ErrArg},
		{symlink("k", ""), api.ErrSyntax},
		{symlink("k", "\x00"), api.ErrSyntax},
		{symlink("k", x(maxPath+1)), api.ErrTooLong},
		{with(dir("k", 0), func(n *api.Node) { n.Data = []byte("a") }), api.ErrArg},
		{with(symlink("k", "a"), func(n *api.Node) { n.Data = []byte("a") }), api.ErrArg},
		{file("k", 0, -1, ""), api.ErrLink},
		{file("k", 0, math.MinInt, ""), api.ErrLink},
		{with(dir("k", 0), func(n *api.Node) { n.Class = 1 }), api.ErrLink},
		{with(symlink("k", "a"), func(n *api.Node) { n.Class = 1 }), api.ErrLink},
	} {
		wantInvalid(t, c.err, c.n)
		wantInvalid(t, c.err, append(sample(), c.n)...)
		wantInvalid(t, c.err, append([]api.Node{c.n}, sample()...)...)
		// An error of a node by itself precedes those of the nodes together.
		wantInvalid(t, c.err, dir("same", 0), dir("same", 0), c.n)
		wantInvalid(t, c.err, file("no/parent", 0, 0, ""), c.n, api.Node{Kind: 9, Path: "k"})
	}
}

// P21.1: nodes that are invalid together.
func TestInvalidTrees(t *testing.T) {
	wantInvalid(t, api.ErrDuplicate, dir("a", 0), dir("a", 0))
	wantInvalid(t, api.ErrDuplicate, file("a", 0, 1, ""), file("a", 0, 1, ""))
	wantInvalid(t, api.ErrDuplicate, symlink("a", "b"), dir("b", 0), dir("a", 0))
	wantInvalid(t, api.ErrDuplicate, append(sample(), file("d/d", 0, 0, ""))...)
	wantInvalid(t, api.ErrParent, file("a/b", 0, 0, ""))
	wantInvalid(t, api.ErrParent, file("a/b", 0, 0, ""), file("a", 0, 0, ""))
	wantInvalid(t, api.ErrParent, symlink("a", "d"), dir("d", 0), dir("a/b", 0))
	wantInvalid(t, api.ErrParent, dir("d", 0), symlink("d/e/s", "a"))
	wantInvalid(t, api.ErrParent, append(sample(), dir("z/z", 0))...)
	wantInvalid(t, api.ErrParent, append(sample(), dir("s/z", 0))...)
	wantInvalid(t, api.ErrLink, file("a", 1, 1, "a"), file("b", 2, 1, "a"))
	wantInvalid(t, api.ErrLink, file("a", 1, 1, "a"), file("b", 1, 1, "b"))
	wantInvalid(t, api.ErrLink, file("a", 1, 1, ""), file("b", 1, 1, "b"))
	wantInvalid(t, api.ErrLink, append(sample(), file("zz", 0o644, 9, "abcd"))...)
	// The first invalid node decides, and its first error.
	wantInvalid(t, api.ErrParent, file("z/a", 0, 0, ""), dir("a", 0), dir("a", 0))
	wantInvalid(t, api.ErrDuplicate, dir("a", 0), dir("a", 0), file("z/a", 0, 0, ""))
	wantInvalid(t, api.ErrDuplicate, file("a", 1, 1, "a"), dir("b", 0), file("a", 2, 1, "a"), dir("z/a", 0))
}

// P21.1: every mode of a directory and a regular file.
func TestModes(t *testing.T) {
	for mode := 0; mode <= 4095; mode++ {
		f := marked(t, plain)
		l := []api.Node{file("g", mode, 2, "g"), file("f", mode, 2, "g"), dir("d", mode), symlink("s", "t")}
		want(t, extract.Tree(l, f), api.OK)
		wantContents(t, f, plain, expected(plain, l))
		if t.Failed() {
			t.Fatalf("with the mode %o", mode)
		}
	}
}

// P21.1: contents of all lengths around a block, and with all bytes, of files with one path and with several.
func TestContents(t *testing.T) {
	all := make([]byte, 256)
	for i := range all {
		all[i] = byte(i)
	}
	for _, data := range []string{"", "a", "\x00", "\n", string(all), x(511), x(512), x(513), zeros(1024), x(100000)} {
		wantCreated(t, plain, file("c", 0, 1, data), file("a", 0, 0, data), dir("d", 0), file("d/a", 0, 0, data+"b"), file("b", 0, 1, data), file("d/c", 0, 2, data))
	}
}

// P21.1: long paths and targets, in a file system of their own each, and together.
func TestLongValues(t *testing.T) {
	var l []api.Node
	deep := "d"
	for len(deep) <= maxPath {
		l = append(l, dir(deep, 4095))
		deep += "/" + x(4000)
	}
	l = append(l, file(x(maxPath), 4095, 1, "a"), file(x(maxPath-1), 4095, 1, "a"), symlink("l", x(maxPath)), symlink("m", strings.Repeat("/", maxPath)), symlink("n", "a//b/../\xff\n"), file(x(100), 0, 0, ""), file(x(101), 0, 1<<40, ""), file("d/"+x(155)+"é", 0, 1<<40, ""))
	for _, o := range options {
		wantCreated(t, o, l...)
	}
	wantCreated(t, plain, file(x(maxPath), 0, 0, ""))
	wantCreated(t, plain, symlink(x(maxPath), x(maxPath)))
}

// ascending are paths in bytewise order: what follows a directory in it is less than, or greater than, the paths in the directory.
var ascending = []string{"\x01", " ", "-", "...", ".a", "10", "2", "A", "a", "a\x01", "a-b", "a.", "a.b", "a/\xff", "a/\xff/\x01", "a/\xff/a", "a0", "aa", "aa-", "aa/b", "aa/b-", "aa/b/c", "aa/b/c/d", "aa/c", "aaa", "b", "\x7f", "\x80", "\xc3", "\xc3\xa9", "\xef\xbf\xbd", "\xf0\x9f\x98\x80", "\xff", "\xff\x01", "\xff/\x01", "\xff/\xff"}

// directories are those among the ascending paths that contain others.
var directories = []string{"a", "a/\xff", "aa", "aa/b", "aa/b/c", "\xff"}

func shuffled(random *rand.Rand, l []api.Node) []api.Node {
	l = slices.Clone(l)
	random.Shuffle(len(l), func(i, j int) { l[i], l[j] = l[j], l[i] })
	return l
}

// P21.1: files are created in bytewise ascending order of their paths, which their inode numbers show.
func TestOrder(t *testing.T) {
	var l []api.Node
	for i, path := range ascending {
		switch {
		case slices.Contains(directories, path):
			l = append(l, dir(path, i))
		case i%2 == 0:
			l = append(l, symlink(path, "a"))
		default:
			l = append(l, file(path, i, 0, path))
		}
	}
	random := rand.New(rand.NewSource(1))
	for range 50 {
		for _, o := range options {
			f := empty(t, o)
			want(t, extract.Tree(shuffled(random, l), f), api.OK)
			for i, path := range ascending {
				if info, err := f.Lstat(path); info.Inode != o.First+(i+1)*o.Step || err != api.OK {
					t.Fatalf("the inode number of %q is %d, %v", path, info.Inode, err)
				}
			}
		}
	}
}

// permutations calls a function with each order of a list.
func permutations(l []api.Node, k int, call func()) {
	if k == len(l) {
		call()
		return
	}
	for i := k; i < len(l); i++ {
		l[k], l[i] = l[i], l[k]
		permutations(l, k+1, call)
		l[k], l[i] = l[i], l[k]
	}
}

// P21.1: every order of a tree gives the same file system.
func TestPermutations(t *testing.T) {
	l := []api.Node{dir("d", 1), dir("d/e", 2), file("d/e/a", 3, 8, "a"), file("d-", 3, 8, "a"), file("z", 3, 8, "a"), symlink("d/b", "e")}
	wanted := expected(plain, l)
	count := 0
	permutations(l, 0, func() {
		f := marked(t, plain)
		want(t, extract.Tree(l, f), api.OK)
		if got := contents(t, f); !slices.Equal(got, wanted) {
			t.Errorf("the file system of %s contains %+v", show(l), got)
		}
		count++
	})
	if count != 720 {
		t.Error(count)
	}
}

// P21.1: all partitions of five files into classes. All have the same mode and contents, and one inode only if they are of one class.
func TestClasses(t *testing.T) {
	paths := []string{"a", "d/a", "d/b", "d0", "e"}
	numbers := []int{0, 1, 2, 7, math.MaxInt, 1 << 33}
	random := rand.New(rand.NewSource(2))
	for i := range 6 * 6 * 6 * 6 * 6 {
		l := []api.Node{dir("d", 0)}
		for _, path := range paths {
			l = append(l, file(path, 1, numbers[i%6], "same"))
			i /= 6
		}
		l = shuffled(random, l)
		o := options[random.Intn(len(options))]
		f := marked(t, o)
		want(t, extract.Tree(l, f), api.OK)
		wantContents(t, f, o, expected(o, l))
		if t.Failed() {
			t.Fatal(show(l))
		}
	}
}

// P21.1: files of one class have the place of their least path, which may be in a directory that the list names last.
func TestLeastPath(t *testing.T) {
	l := []api.Node{file("c", 0, 4, "c"), file("b", 0, 0, "b"), file("a/a/c", 0, 4, "c"), dir("a/a", 0), dir("a", 0)}
	f := empty(t, plain)
	want(t, extract.Tree(l, f), api.OK)
	for path, inode := range map[string]int{"a": 2, "a/a": 3, "a/a/c": 4, "b": 5, "c": 4} {
		if i, err := f.Lstat(path); i.Inode != inode || err != api.OK {
			t.Errorf("the inode number of %q is %d, %v, want %d", path, i.Inode, err, inode)
		}
	}
}

// P21.1, P21.2: what is in the file system afterwards may be used like what was created in another way.
func TestUsable(t *testing.T) {
	f := empty(t, plain)
	want(t, extract.Tree(sample(), f), api.OK)
	want(t, f.Create("d/new", 0, nil), api.OK)
	want(t, f.Link("d/link", "d/d/b"), api.OK)
	want(t, f.Create("a/b", 0, nil), api.ErrParent)
	want(t, f.Mkdir("a", 0), api.ErrDuplicate)
	want(t, f.Chown("z", 3, 4), api.OK)
	if i, err := f.Lstat("d/link"); i != (vfs.Info{Kind: api.File, Mode: 0o644, Inode: 2, Links: 4, Size: 3, Uid: 3, Mtime: 4}) || err != api.OK {
		t.Errorf("%+v, %v", i, err)
	}
	if names, err := f.List("d"); !slices.Equal(names, []string{"a", "d", "e", "link", "new"}) || err != api.OK {
		t.Errorf("%q, %v", names, err)
	}
}

// P21.1, P21.2: a second extraction into the same file system.
func TestAgain(t *testing.T) {
	for _, o := range options {
		f := marked(t, o)
		want(t, extract.Tree(sample(), f), api.OK)
		want(t, extract.Tree(sample(), f), api.ErrState)
		want(t, extract.Tree(nil, f), api.ErrState)
		s := from(encoded(t, dir("new", 0)), always)
		if n, err := extract.Archive(s, f); n != 0 || err != api.ErrState || s.Offset() != 0 {
			t.Errorf("Archive() = %d, %v", n, err)
		}
		wantContents(t, f, o, expected(o, sample()))
	}
}

// P21.2: an archive, however the source splits it, also after the source has delivered other bytes.
func TestArchive(t *testing.T) {
	for _, l := range [][]api.Node{nil, sample(), {file("a", 0, 0, x(1024))}, {symlink(x(200), x(300))}} {
		stream := encoded(t, l...)
		for i, chunks := range [][]int{nil, {1}, {7, 100}, {511}, {512}, {513, 1}, {-1, 5, 0}, {math.MaxInt}} {
			for _, before := range []string{"", "a", x(600)} {
				o := options[i%len(options)]
				f, s := marked(t, o), from(before+stream, api.Script{Chunks: chunks, FailAt: -1})
				for s.Offset() < int64(len(before)) {
					_, err := s.Read(len(before) - int(s.Offset()))
					want(t, err, api.OK)
				}
				if n, err := extract.Archive(s, f); n != int64(len(stream)) || err != api.OK {
					t.Errorf("Archive() = %d, %v with the chunks %v, want %d", n, err, chunks, len(stream))
				}
				if s.Offset() != int64(len(before)+len(stream)) {
					t.Errorf("%d bytes have been read", s.Offset())
				}
				wantContents(t, f, o, expected(o, l))
			}
		}
	}
}

// The document's examples 7 to 9, and other archives that are not canonical, at known offsets.
func TestRejectedArchives(t *testing.T) {
	a, d, da := encoded(t, file("a", 0, 0, "a")), encoded(t, dir("d", 0)), encoded(t, dir("d", 0), file("d/a", 0, 0, "a"))
	first, directory, inside := a[:1024], d[:512], da[512:1536]
	link := encoded(t, file("a", 0, 1, "a"), file("b", 0, 1, "a"))[1024:1536]
	for _, c := range []struct {
		b   string
		at  int
		err api.Errno
	}{
		{"", 0, api.ErrTruncated},
		{zeros(1023), 1023, api.ErrTruncated},
		{zeros(512), 512, api.ErrTruncated},
		{zeros(1025), 1024, api.ErrTrailer},
		{zeros(1536), 1024, api.ErrTrailer},
		{zeros(512) + x(512), 512, api.ErrTrailer},
		{x(512), 0, api.ErrChecksum},
		{inside + directory + zeros(1024), 0, api.ErrParent},
		{directory + first + zeros(1024), 512, api.ErrOrder},
		{directory + directory + zeros(1024), 512, api.ErrOrder},
		{link + zeros(1024), 0, api.ErrLink},
		{directory + link + zeros(1024), 512, api.ErrOrder},
		{first + link, 1536, api.ErrTruncated},
		{first + link + zeros(512), 2048, api.ErrTruncated},
		{first + link + zeros(1024) + "a", 2560, api.ErrTrailer},
		{first[:513] + "b" + first[514:] + zeros(1024), 513, api.ErrPadding},
		{first[:1000], 1000, api.ErrTruncated},
	} {
		wantRejected(t, c.b, always, c.at, c.err)
		wantRejected(t, c.b, api.Script{Chunks: []int{100, 1}, FailAt: -1}, c.at, c.err)
	}
}

// P21.2: every proper prefix of an archive.
func TestPrefixes(t *testing.T) {
	stream := encoded(t, dir("d", 0), file("d/a", 0, 1, x(600)), file("d/b", 0, 1, x(600)), symlink(x(101), x(101)))
	for n := range stream {
		wantRejected(t, stream[:n], always, n, api.ErrTruncated)
	}
}

// P21.2, P6: a source that fails at a byte, as the last read at the end of the archive does.
func TestFailingSource(t *testing.T) {
	l := []api.Node{dir("d", 0), file("d/a", 0, 1, x(600)), file("d/b", 0, 1, x(600)), symlink(x(101), x(101))}
	stream := encoded(t, l...)
	for k := range len(stream) + 1 {
		wantRejected(t, stream, api.Script{Chunks: []int{300, 1}, FailAt: int64(k)}, k, api.ErrIO)
	}
	f := marked(t, plain)
	if n, err := extract.Archive(from(stream, api.Script{FailAt: int64(len(stream) + 1)}), f); n != int64(len(stream)) || err != api.OK {
		t.Errorf("Archive() = %d, %v", n, err)
	}
	wantContents(t, f, plain, expected(plain, l))
}

// P21.2: after an error, another archive may be extracted into the same file system.
func TestAfterAnError(t *testing.T) {
	stream := encoded(t, sample()...)
	for _, o := range options {
		f := marked(t, o)
		for _, n := range []int{0, 1, 511, 512, 600, 3000, len(stream) - 1} {
			if at, err := extract.Archive(from(stream[:n], always), f); at != int64(n) || err != api.ErrTruncated {
				t.Errorf("Archive() = %d, %v", at, err)
			}
			want(t, extract.Tree(append(sample(), dir("a", 0)), f), api.ErrDuplicate)
		}
		if n, err := extract.Archive(from(stream, always), f); n != int64(len(stream)) || err != api.OK {
			t.Errorf("Archive() = %d, %v", n, err)
		}
		wantContents(t, f, o, expected(o, sample()))
	}
}

// P21.2: the results are those of archive.Read, and the files those of its tree, also for changed archives.
func TestChangedArchives(t *testing.T) {
	random := rand.New(rand.NewSource(4))
	rejected := 0
	for range 5000 {
		b := []byte(encoded(t, randomTree(random)...))
		for range random.Intn(3) {
			b[random.Intn(len(b))] = byte(random.Intn(256))
		}
		if random.Intn(10) == 0 {
			b = append(b, 0)
		}
		script := api.Script{Chunks: []int{random.Intn(600)}, FailAt: int64(random.Intn(3*len(b))) - 1}
		l, at, err := archive.Read(source.New(b, script))
		if err != api.OK {
			wantRejected(t, string(b), script, int(at), err)
			rejected++
			continue
		}
		f := marked(t, plain)
		if n, err := extract.Archive(source.New(b, script), f); n != at || n != int64(len(b)) || err != api.OK {
			t.Errorf("Archive() = %d, %v", n, err)
		}
		wantContents(t, f, plain, expected(plain, l))
	}
	if rejected < 1000 || rejected > 4500 {
		t.Error(rejected)
	}
}

// randomTree returns nodes of random kinds, in no particular order.
func randomTree(random *rand.Rand) []api.Node {
	names := []string{"a", "b", "a-", "a0", "\xff", "ab", ".a"}
	parents := []string{""}
	seen := map[string]bool{}
	var l []api.Node
	for range random.Intn(25) {
		path := parents[random.Intn(len(parents))] + names[random.Intn(len(names))]
		if seen[path] {
			continue
		}
		seen[path] = true
		mode := random.Intn(4096)
		switch random.Intn(4) {
		case 0:
			l = append(l, dir(path, mode))
			parents = append(parents, path+"/")
		case 1:
			l = append(l, symlink(path, names[random.Intn(len(names))]))
		case 2:
			l = append(l, file(path, mode, 0, x(random.Intn(3))))
		case 3:
			// The files of a class have the same mode and contents.
			class := 1 + random.Intn(4)
			l = append(l, file(path, class, class, x(class)))
		}
	}
	return shuffled(random, l)
}

func randomOptions(random *rand.Rand) vfs.Options {
	o := vfs.Options{First: 1 + random.Intn(maxNumber), Step: 1 + random.Intn(maxNumber)}
	for range random.Intn(5) {
		o.Rotate = append(o.Rotate, random.Intn(10))
	}
	return o
}

// wantWalked checks that the tree of a file system is the canonical form of a tree.
func wantWalked(t *testing.T, f *vfs.FS, l []api.Node) {
	t.Helper()
	if got, path, err := walk.Walk(f); show(got) != show(tree.Canon(l)) || path != "" || err != api.OK {
		t.Errorf("Walk() = %s, %q, %v, want that of %s", cut(show(got)), path, err, cut(show(l)))
	}
}

// P21.3: the canonical form of a tree is written down.
func TestWalkSample(t *testing.T) {
	for _, o := range options {
		f, g := marked(t, o), marked(t, o)
		want(t, extract.Tree(sample(), f), api.OK)
		_, err := extract.Archive(from(encoded(t, sample()...), always), g)
		want(t, err, api.OK)
		for _, fs := range []*vfs.FS{f, g} {
			if l, path, err := walk.Walk(fs); show(l) != show(canonicalSample()) || path != "" || err != api.OK {
				t.Errorf("Walk() = %s, %q, %v", show(l), path, err)
			}
		}
	}
}

// P21.1 to P21.3: random trees.
func TestRandomTrees(t *testing.T) {
	random := rand.New(rand.NewSource(5))
	for range 2000 {
		l, o := randomTree(random), randomOptions(random)
		f := marked(t, o)
		want(t, extract.Tree(l, f), api.OK)
		wantWalked(t, f, l)
		if packed(t, f) != encoded(t, l...) {
			t.Errorf("the archive of the file system is not that of %s", cut(show(l)))
		}
		wantContents(t, f, o, expected(o, l))
		if t.Failed() {
			return
		}
	}
}

// randomFS returns a file system that was made step by step, and the nodes that it should have.
func randomFS(t *testing.T, random *rand.Rand) *vfs.FS {
	t.Helper()
	f := empty(t, randomOptions(random))
	directories, files := []string{""}, []string{}
	for i := range random.Intn(30) {
		path := directories[random.Intn(len(directories))] + strconv.Itoa(random.Intn(40))
		var err api.Errno
		switch random.Intn(4) {
		case 0:
			if err = f.Mkdir(path, random.Intn(4096)); err == api.OK {
				directories = append(directories, path+"/")
			}
		case 1:
			err = f.Symlink(path, strconv.Itoa(i))
		case 2:
			if err = f.Create(path, random.Intn(4096), []byte(x(random.Intn(3)))); err == api.OK {
				files = append(files, path)
			}
		case 3:
			if len(files) > 0 {
				err = f.Link(path, files[random.Intn(len(files))])
			}
		}
		if err != api.OK && err != api.ErrDuplicate {
			t.Fatal(err)
		}
		f.Chown(path, random.Int(), random.Int63())
	}
	return f
}

// P21.3, P5: packing a file system and extracting the archive preserves everything but owners, times and inode numbers; of these, it preserves which are equal.
func TestRoundTrip(t *testing.T) {
	random := rand.New(rand.NewSource(6))
	for range 2000 {
		f := randomFS(t, random)
		stream := packed(t, f)
		g := empty(t, randomOptions(random))
		script := api.Script{Chunks: []int{1 + random.Intn(1000)}, FailAt: -1}
		if n, err := extract.Archive(from(stream, script), g); n != int64(len(stream)) || err != api.OK {
			t.Fatalf("Archive() = %d, %v", n, err)
		}
		before, after := contents(t, f), contents(t, g)
		if len(after) != len(before) {
			t.Fatalf("%d files have become %d", len(before), len(after))
		}
		to, back := map[int]int{}, map[int]int{}
		for i := range before {
			a, b := before[i], after[i]
			if old, ok := to[a.info.Inode]; ok && old != b.info.Inode {
				t.Errorf("%q and another path do not share an inode any more", a.path)
			}
			if old, ok := back[b.info.Inode]; ok && old != a.info.Inode {
				t.Errorf("%q shares an inode with another path now", a.path)
			}
			to[a.info.Inode], back[b.info.Inode] = b.info.Inode, a.info.Inode
			a.info.Inode, a.info.Uid, a.info.Mtime = b.info.Inode, 0, 0
			if a != b {
				t.Errorf("%+v has become %+v", a, b)
			}
		}
		if packed(t, g) != stream {
			t.Error("the archive of the extracted files is another one")
		}
		if t.Failed() {
			return
		}
	}
}

// Rule 4: the tree is not modified, and the file system keeps nothing of it.
func TestArguments(t *testing.T) {
	l := sample()
	before := show(l)
	// What follows the length of a slice belongs to the caller.
	for i := range l {
		if l[i].Kind == api.File {
			l[i].Data = append(l[i].Data, 'X')[:len(l[i].Data)]
		}
	}
	whole := append(l, dir("beyond", 0))
	l = whole[:len(l)]
	f := marked(t, plain)
	want(t, extract.Tree(l, f), api.OK)
	if show(whole) != before+show([]api.Node{dir("beyond", 0)}) {
		t.Errorf("%s has become %s", before, show(whole))
	}
	for i := range l {
		if n := len(l[i].Data); l[i].Kind == api.File && l[i].Data[:n+1][n] != 'X' {
			t.Errorf("the byte after the data of %q has changed", l[i].Path)
		}
		for j := range l[i].Data {
			l[i].Data[j] = 'Y'
		}
		l[i] = api.Node{}
	}
	wantContents(t, f, plain, expected(plain, sample()))

	invalid := []api.Node{dir("b", 0), dir("a", 0), dir("a", 0)}
	before = show(invalid)
	want(t, extract.Tree(invalid, marked(t, plain)), api.ErrDuplicate)
	if show(invalid) != before {
		t.Errorf("%s has become %s", before, show(invalid))
	}
}

// P2: one tree in several file systems, which do not affect each other.
func TestSeveralFileSystems(t *testing.T) {
	l := sample()
	f, g := marked(t, plain), marked(t, plain)
	want(t, extract.Tree(l, f), api.OK)
	want(t, f.Chown("a", 1, 1), api.OK)
	want(t, f.Link("link", "a"), api.OK)
	want(t, extract.Tree(l, g), api.OK)
	wantContents(t, g, plain, expected(plain, l))
	if i, err := f.Lstat("z"); i.Links != 4 || i.Uid != 1 || err != api.OK {
		t.Errorf("%+v, %v", i, err)
	}
}

// Rule 6: calls at the same time.
func TestConcurrent(t *testing.T) {
	l := sample()
	stream := encoded(t, l...)
	var group sync.WaitGroup
	for i := range 8 {
		group.Go(func() {
			o := vfs.Options{First: 1 + i, Step: 1 + i, Rotate: []int{i, 1}}
			for range 20 {
				f, g := marked(t, o), marked(t, o)
				want(t, extract.Tree(l, f), api.OK)
				wantContents(t, f, o, expected(o, l))
				_, err := extract.Archive(from(stream, always), g)
				want(t, err, api.OK)
				wantContents(t, g, o, expected(o, l))
			}
		})
	}
	group.Wait()
}

// P1: many files in one directory, many directories, and many links.
func TestManyFiles(t *testing.T) {
	const n = 10000
	l := []api.Node{file("links/0", 0, 1, "data"), dir("links", 0)}
	for i := range n {
		name := strconv.Itoa(n + i)
		l = append(l, file("links/"+name, 0, 1, "data"), file(name+"/f", 0, 2+i, name), dir(name, 0))
	}
	for _, o := range options {
		f, g := empty(t, o), empty(t, o)
		want(t, extract.Tree(l, f), api.OK)
		wantWalked(t, f, l)
		stream := packed(t, f)
		if n, err := extract.Archive(from(stream, always), g); n != int64(len(stream)) || err != api.OK {
			t.Errorf("Archive() = %d, %v", n, err)
		}
		if packed(t, g) != stream {
			t.Error("another archive")
		}
		for i, path := range []string{"links/0", "links/10000", "links/19999"} {
			// Before the links, each directory with its file was created, and the directory of the links.
			if info, err := g.Lstat(path); info.Links != n+1 || info.Inode != o.First+(2*n+2)*o.Step || err != api.OK {
				t.Errorf("%d: Lstat(%q) = %+v, %v", i, path, info, err)
			}
		}
	}
}

// P1: one directory in another, from the innermost to the outermost.
func TestDeep(t *testing.T) {
	const depth = 2000
	path, l := "d", []api.Node{}
	for range depth {
		l = append(l, dir(path, 0))
		path += "/d"
	}
	l = append(l, file(path, 0, 0, "deep"))
	slices.Reverse(l)
	f := empty(t, plain)
	want(t, extract.Tree(l, f), api.OK)
	wantWalked(t, f, l)
	if i, err := f.Lstat(path); i.Inode != depth+2 || err != api.OK {
		t.Errorf("%+v, %v", i, err)
	}
}

// Rule 7: equal calls have equal results.
func TestDeterministic(t *testing.T) {
	var first []content
	for i := range 20 {
		f := empty(t, options[1])
		want(t, extract.Tree(sample(), f), api.OK)
		got := contents(t, f)
		if i == 0 {
			first = got
		}
		if !slices.Equal(got, first) {
			t.Fatalf("%+v, and earlier %+v", got, first)
		}
	}
}
