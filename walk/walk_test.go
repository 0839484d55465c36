package walk_test

import (
	"archive/tar"
	"bytes"
	"fmt"
	"io"
	"math"
	"math/rand"
	"slices"
	"strconv"
	"strings"
	"sync"
	"testing"

	"paxtar/api"
	"paxtar/archive"
	"paxtar/sink"
	"paxtar/tree"
	"paxtar/vfs"
	"paxtar/walk"
)

const (
	maxPath   = 65536
	maxNumber = 1000000
)

// plain are the options of a file system with the inode numbers 1, 2, and so on, and sorted listings.
var plain = vfs.Options{First: 1, Step: 1}

// always is the script of a sink that accepts everything.
var always = api.Script{FailAt: -1}

// x returns a string of n bytes without a slash.
func x(n int) string { return strings.Repeat("x", n) }

func cut(s string) string {
	if len(s) > 600 {
		s = s[:600] + "…"
	}
	return s
}

// show returns a text with all fields of nodes.
func show(l []api.Node) string {
	var text strings.Builder
	for _, n := range l {
		fmt.Fprintf(&text, "{%d %q %o %q %q %d}", n.Kind, n.Path, n.Mode, n.Target, n.Data, n.Class)
	}
	return text.String()
}

func dir(path string, mode int) api.Node { return api.Node{Kind: api.Dir, Path: path, Mode: mode} }

func file(path string, mode, class int, data string) api.Node {
	return api.Node{Kind: api.File, Path: path, Mode: mode, Data: []byte(data), Class: class}
}

func symlink(path, target string) api.Node {
	return api.Node{Kind: api.Symlink, Path: path, Target: target}
}

func device(path string) api.Node { return api.Node{Kind: api.Device, Path: path} }

func want(t *testing.T, got, want api.Errno) {
	t.Helper()
	if got != want {
		t.Errorf("%v, want %v", got, want)
	}
}

func empty(t *testing.T, o vfs.Options) *vfs.FS {
	t.Helper()
	f, err := vfs.New(o)
	if f == nil || err != api.OK {
		t.Fatalf("New(%v) = %v, %v", o, f, err)
	}
	return f
}

// add creates a file like a node, which is another path of the file with the path link if that is not empty.
func add(t *testing.T, f *vfs.FS, n api.Node, link string) {
	t.Helper()
	var err api.Errno
	switch {
	case link != "":
		err = f.Link(n.Path, link)
	case n.Kind == api.Dir:
		err = f.Mkdir(n.Path, n.Mode)
	case n.Kind == api.File:
		err = f.Create(n.Path, n.Mode, n.Data)
	case n.Kind == api.Symlink:
		err = f.Symlink(n.Path, n.Target)
	case n.Kind == api.Device:
		err = f.Mknod(n.Path, n.Mode)
	}
	if err != api.OK {
		t.Fatalf("adding %s: %v", cut(show([]api.Node{n})), err)
	}
}

// made returns a file system with files like the given nodes, which are created in their order.
func made(t *testing.T, o vfs.Options, l ...api.Node) *vfs.FS {
	t.Helper()
	f := empty(t, o)
	first := map[int]string{}
	for _, n := range l {
		add(t, f, n, first[n.Class])
		if n.Class > 0 && first[n.Class] == "" {
			first[n.Class] = n.Path
		}
	}
	return f
}

// shuffled returns the nodes in another order, in which a directory precedes the nodes in it.
func shuffled(random *rand.Rand, l []api.Node) []api.Node {
	left := slices.Clone(l)
	done := map[string]bool{"": true}
	var order []api.Node
	for len(left) > 0 {
		i := random.Intn(len(left))
		parent := ""
		if at := strings.LastIndex(left[i].Path, "/"); at >= 0 {
			parent = left[i].Path[:at]
		}
		if !done[parent] {
			continue
		}
		done[left[i].Path] = true
		order = append(order, left[i])
		left = slices.Delete(left, i, i+1)
	}
	return order
}

// canonical sorts nodes and numbers their classes, as the chapters 13 and 20 say.
func canonical(l []api.Node) []api.Node {
	sorted := slices.Clone(l)
	slices.SortFunc(sorted, func(a, b api.Node) int { return bytes.Compare([]byte(a.Path), []byte(b.Path)) })
	members := func(class int) int {
		n := 0
		for _, other := range l {
			if other.Class == class {
				n++
			}
		}
		return n
	}
	numbers := map[int]int{0: 0}
	for i, n := range sorted {
		if n.Class == 0 || members(n.Class) == 1 {
			sorted[i].Class = 0
			continue
		}
		if numbers[n.Class] == 0 {
			numbers[n.Class] = len(numbers)
		}
		sorted[i].Class = numbers[n.Class]
	}
	return sorted
}

func wantPaths(t *testing.T, f *vfs.FS, want ...string) {
	t.Helper()
	for range 3 {
		if l, err := walk.Paths(f); !slices.Equal(l, want) || err != api.OK {
			t.Errorf("Paths() = %s, %v, want %s", cut(fmt.Sprintf("%q", l)), err, cut(fmt.Sprintf("%q", want)))
		}
	}
}

// wantTree checks that Walk returns exactly these nodes, in this order and with these classes.
func wantTree(t *testing.T, f *vfs.FS, want ...api.Node) {
	t.Helper()
	for range 3 {
		if l, path, err := walk.Walk(f); show(l) != show(want) || path != "" || err != api.OK {
			t.Errorf("Walk() = %s, %q, %v, want %s", cut(show(l)), path, err, cut(show(want)))
		}
	}
}

// wantError checks that Walk and Pack return a path and an error, and nothing else.
func wantError(t *testing.T, f *vfs.FS, path string, want api.Errno) {
	t.Helper()
	for range 3 {
		if l, p, err := walk.Walk(f); len(l) != 0 || p != path || err != want {
			t.Errorf("Walk() = %s, %q, %v, want %q, %v", cut(show(l)), cut(p), err, cut(path), want)
		}
		for _, script := range []api.Script{always, {FailAt: 0}, {FailAt: 3}} {
			s := sink.New(script)
			before := s.Bytes()
			if p, err := walk.Pack(f, s); p != path || err != want || !bytes.Equal(s.Bytes(), before) {
				t.Errorf("Pack() = %q, %v with %d bytes, want %q, %v", cut(p), err, s.Len(), cut(path), want)
			}
		}
	}
}

// packed returns the archive of a file system.
func packed(t *testing.T, f *vfs.FS) string {
	t.Helper()
	s := sink.New(always)
	if path, err := walk.Pack(f, s); path != "" || err != api.OK {
		t.Errorf("Pack() = %q, %v", cut(path), err)
	}
	return string(s.Bytes())
}

// encoded returns the archive of a tree.
func encoded(t *testing.T, l ...api.Node) string {
	t.Helper()
	b, err := archive.Encode(l)
	want(t, err, api.OK)
	return string(b)
}

// some are nodes of all kinds, in their order. Files with equal contents need not be one.
var some = []api.Node{
	file("a", 0o644, 1, "abc"),
	dir("d", 0o750),
	file("d.", 0o600, 2, ""),
	file("d/a", 0o644, 0, "abc"),
	dir("d/d", 0),
	file("d/d/b", 0o644, 1, "abc"),
	symlink("d/d/s", "../../a"),
	file("d/e", 0o600, 2, ""),
	file("d0", 0o644, 3, "abc"),
	file("e", 0o644, 3, "abc"),
	symlink("s", "d"),
	file("z", 0o644, 1, "abc"),
}

// listings are rotations of listings.
var listings = [][]int{nil, {0}, {1}, {2}, {3}, {0, 1}, {1, 2, 3}, {5, 0, 2, 7}, {math.MaxInt, math.MaxInt - 1}}

// The chapter's example.
func TestExample(t *testing.T) {
	f := empty(t, plain)
	want(t, f.Create("a", 0o644, nil), api.OK)
	want(t, f.Link("b", "a"), api.OK)
	wantTree(t, f, file("a", 0o644, 1, ""), file("b", 0o644, 1, ""))
	wantPaths(t, f, "a", "b")
}

// The document's example 10.
func TestDevice(t *testing.T) {
	f := made(t, plain, device("tty"))
	wantError(t, f, "tty", api.ErrKind)
	wantPaths(t, f, "tty")
}

// P20.1 to P20.3: only the root directory.
func TestEmpty(t *testing.T) {
	for _, rotate := range listings {
		f := empty(t, vfs.Options{First: 5, Step: 5, Rotate: rotate})
		want(t, f.Chown("", 1, 1), api.OK)
		wantPaths(t, f)
		wantTree(t, f)
		if b := packed(t, f); b != strings.Repeat("\x00", 1024) {
			t.Errorf("%d bytes", len(b))
		}
	}
}

// P20.1 to P20.3: nil arguments.
func TestNil(t *testing.T) {
	if l, err := walk.Paths(nil); len(l) != 0 || err != api.ErrNil {
		t.Errorf("Paths(nil) = %q, %v", l, err)
	}
	wantError(t, nil, "", api.ErrNil)
	for _, f := range []*vfs.FS{nil, empty(t, plain), made(t, plain, some...), made(t, plain, device("n"))} {
		if path, err := walk.Pack(f, nil); path != "" || err != api.ErrNil {
			t.Errorf("Pack with a nil sink = %q, %v", path, err)
		}
	}
}

// ascending are paths in bytewise order: what follows a directory in it is less than, or greater than, the paths in the directory.
var ascending = []string{"\x01", " ", "-", "...", ".a", "10", "2", "A", "a", "a\x01", "a-b", "a.", "a.b", "a/\xff", "a/\xff/\x01", "a/\xff/a", "a0", "aa", "aa-", "aa/b", "aa/b-", "aa/b/c", "aa/b/c/d", "aa/c", "aaa", "b", "\x7f", "\x80", "\xc3", "\xc3\xa9", "\xef\xbf\xbd", "\xf0\x9f\x98\x80", "\xff", "\xff\x01", "\xff/\x01", "\xff/\xff"}

// directories are those among the ascending paths that contain others.
var directories = []string{"a", "a/\xff", "aa", "aa/b", "aa/b/c", "\xff"}

// P20.1, P20.2: the order of paths is bytewise, in which a directory may be separated from the files in it.
func TestOrder(t *testing.T) {
	var l []api.Node
	for i, path := range ascending {
		switch {
		case slices.Contains(directories, path):
			l = append(l, dir(path, i))
		case i%2 == 0:
			l = append(l, symlink(path, "a"))
		default:
			l = append(l, file(path, i, 0, path))
		}
	}
	random := rand.New(rand.NewSource(1))
	for range 20 {
		for _, rotate := range listings {
			f := made(t, vfs.Options{First: 1, Step: 1, Rotate: rotate}, shuffled(random, l)...)
			wantPaths(t, f, ascending...)
			wantTree(t, f, l...)
			if t.Failed() {
				return
			}
		}
	}
}

// P20.1: files of all kinds have paths, and each path of a file is one.
func TestPathsOfAllKinds(t *testing.T) {
	l := append(slices.Clone(some), device("d/n"), device("n"))
	for _, rotate := range listings {
		f := made(t, vfs.Options{First: 1, Step: 1, Rotate: rotate}, l...)
		wantPaths(t, f, "a", "d", "d.", "d/a", "d/d", "d/d/b", "d/d/s", "d/e", "d/n", "d0", "e", "n", "s", "z")
		want(t, f.Mkdir("d/d/new", 0), api.OK)
		wantPaths(t, f, "a", "d", "d.", "d/a", "d/d", "d/d/b", "d/d/new", "d/d/s", "d/e", "d/n", "d0", "e", "n", "s", "z")
	}
}

// P20.1, P20.2: symbolic links are not followed, wherever they point to.
func TestSymlinks(t *testing.T) {
	l := []api.Node{dir("d", 0), symlink("d/l", "."), symlink("d/m", "d/m"), symlink("l", "d"), symlink("m", "/"), symlink("n", x(maxPath)), symlink("o", "a//b/../\xff\n"), symlink("p", " ")}
	f := made(t, plain, l...)
	wantTree(t, f, l...)
	wantPaths(t, f, "d", "d/l", "d/m", "l", "m", "n", "o", "p")
}

// P20.2: every mode of a directory and a regular file, and the mode of a symbolic link, which is 0.
func TestModes(t *testing.T) {
	for mode := 0; mode <= 4095; mode++ {
		f := made(t, plain, dir("d", mode), file("f", mode, 0, ""), symlink("s", "t"))
		l, path, err := walk.Walk(f)
		if show(l) != show([]api.Node{dir("d", mode), file("f", mode, 0, ""), symlink("s", "t")}) || path != "" || err != api.OK {
			t.Errorf("Walk() = %s, %q, %v with the mode %d", show(l), path, err, mode)
		}
	}
}

// P20.2: contents of all lengths around a block, and with all bytes.
func TestContents(t *testing.T) {
	all := make([]byte, 256)
	for i := range all {
		all[i] = byte(i)
	}
	for _, data := range []string{"", "a", "\x00", "\n", string(all), x(511), x(512), x(513), strings.Repeat("\x00", 1024), x(100000)} {
		f := made(t, plain, file("a", 0, 0, data), dir("d", 0), file("d/a", 0, 0, data+"b"), file("d/b", 0, 1, data), file("d/c", 0, 1, data))
		wantTree(t, f, file("a", 0, 0, data), dir("d", 0), file("d/a", 0, 0, data+"b"), file("d/b", 0, 1, data), file("d/c", 0, 1, data))
	}
}

// P20.2: all partitions of five files into classes, whatever the order in which they are created. All have the same mode and contents.
func TestClasses(t *testing.T) {
	paths := []string{"a", "d/a", "d/b", "d0", "e"}
	random := rand.New(rand.NewSource(2))
	partitions := 0
	for i := range 6 * 6 * 6 * 6 * 6 {
		l := []api.Node{dir("d", 0)}
		for _, path := range paths {
			l = append(l, file(path, 1, i%6, "same"))
			i /= 6
		}
		o := vfs.Options{First: 1 + random.Intn(4), Step: 1 + random.Intn(4), Rotate: listings[random.Intn(len(listings))]}
		f := made(t, o, shuffled(random, l)...)
		got, path, err := walk.Walk(f)
		if wanted := show(canonical(l)); show(got) != wanted || path != "" || err != api.OK {
			t.Fatalf("Walk() = %s, %q, %v, want %s", show(got), path, err, wanted)
		}
		partitions++
	}
	if partitions != 7776 {
		t.Error(partitions)
	}
}

// P20.2: classes have the numbers 1, 2, and so on, by their least paths; these results are written down.
func TestClassNumbers(t *testing.T) {
	f := empty(t, vfs.Options{First: maxNumber, Step: maxNumber})
	for _, path := range []string{"z", "y", "x"} {
		want(t, f.Create(path, 0, nil), api.OK)
	}
	wantTree(t, f, file("x", 0, 0, ""), file("y", 0, 0, ""), file("z", 0, 0, ""))
	want(t, f.Link("m", "z"), api.OK)
	wantTree(t, f, file("m", 0, 1, ""), file("x", 0, 0, ""), file("y", 0, 0, ""), file("z", 0, 1, ""))
	want(t, f.Link("n", "y"), api.OK)
	wantTree(t, f, file("m", 0, 1, ""), file("n", 0, 2, ""), file("x", 0, 0, ""), file("y", 0, 2, ""), file("z", 0, 1, ""))
	want(t, f.Mkdir("a", 0), api.OK)
	want(t, f.Link("a/x", "x"), api.OK)
	wantTree(t, f, dir("a", 0), file("a/x", 0, 1, ""), file("m", 0, 2, ""), file("n", 0, 3, ""), file("x", 0, 1, ""), file("y", 0, 3, ""), file("z", 0, 2, ""))
	want(t, f.Link("0", "n"), api.OK)
	wantTree(t, f, file("0", 0, 1, ""), dir("a", 0), file("a/x", 0, 2, ""), file("m", 0, 3, ""), file("n", 0, 1, ""), file("x", 0, 2, ""), file("y", 0, 1, ""), file("z", 0, 3, ""))
}

// P20.2: the files of a class are all paths of the file, even after one of them was linked to another than the first.
func TestLinksOfLinks(t *testing.T) {
	f := made(t, plain, file("e", 7, 0, "data"))
	for _, l := range [][2]string{{"c", "e"}, {"d", "c"}, {"b", "d"}, {"a", "e"}} {
		want(t, f.Link(l[0], l[1]), api.OK)
	}
	wantTree(t, f, file("a", 7, 1, "data"), file("b", 7, 1, "data"), file("c", 7, 1, "data"), file("d", 7, 1, "data"), file("e", 7, 1, "data"))
}

// P20.2: with devices, the result is the least of their paths, whatever the order of their creation and of listings.
func TestLeastDevice(t *testing.T) {
	for _, paths := range [][]string{
		{"n"}, {"a-n", "a/n"}, {"a.", "a/n", "a0"}, {"a/b/n", "a/n", "b/n", "n"}, {"a/n", "a0"}, {"a/b/n", "a/c"}, {"A", "a/a"}, {"b/a", "c"}, {"a/b-", "a/b/a"}, {"a/z", "b0"}, {"\x01", "\xff"}, {"a/\xff", "a0"}, {"10", "9"}, {"xx", "xxx", "xy"}, {"b/n"},
	} {
		l := []api.Node{dir("a", 0), file("a/f", 0, 1, "f"), dir("a/b", 0), dir("b", 0), file("0", 0, 1, "f"), symlink("zz", "n")}
		for _, path := range paths {
			l = append(l, device(path))
		}
		random := rand.New(rand.NewSource(3))
		for range 10 {
			for _, rotate := range listings {
				f := made(t, vfs.Options{First: 1, Step: 1, Rotate: rotate}, shuffled(random, l)...)
				wantError(t, f, paths[0], api.ErrKind)
				if got, err := walk.Paths(f); len(got) != len(l) || err != api.OK {
					t.Errorf("Paths() = %q, %v", got, err)
				}
			}
		}
	}
}

// P20.2: the path of a device may be long, and its mode and owner do not matter.
func TestDeviceMetadata(t *testing.T) {
	for _, path := range []string{"n", x(101), x(maxPath)} {
		for _, mode := range []int{0, 1, 0o644, 4095} {
			f := empty(t, plain)
			want(t, f.Mknod(path, mode), api.OK)
			want(t, f.Chown(path, 1, 1), api.OK)
			wantError(t, f, path, api.ErrKind)
			wantPaths(t, f, path)
		}
	}
}

// P20.3: an archive written down. It is read by another program, too.
func TestPack(t *testing.T) {
	f := made(t, vfs.Options{First: 9, Step: 4, Rotate: []int{1, 2}}, some...)
	for path := range strings.FieldsSeq("a d d/a d/d/s") {
		want(t, f.Chown(path, 1000, 1700000000), api.OK)
	}
	stream := packed(t, f)
	if stream != encoded(t, some...) {
		t.Error("the archive is not that of the tree")
	}
	type member struct {
		kind         byte
		name, target string
		mode         int64
		data         string
	}
	wanted := []member{
		{'0', "a", "", 0o644, "abc"}, {'5', "d", "", 0o750, ""}, {'0', "d.", "", 0o600, ""}, {'0', "d/a", "", 0o644, "abc"}, {'5', "d/d", "", 0, ""},
		{'1', "d/d/b", "a", 0o644, ""}, {'2', "d/d/s", "../../a", 0, ""}, {'1', "d/e", "d.", 0o600, ""}, {'0', "d0", "", 0o644, "abc"}, {'1', "e", "d0", 0o644, ""}, {'2', "s", "d", 0, ""}, {'1', "z", "a", 0o644, ""},
	}
	r := tar.NewReader(strings.NewReader(stream))
	for i, m := range wanted {
		h, err := r.Next()
		if err != nil {
			t.Fatal(i, err)
		}
		data, err := io.ReadAll(r)
		if got := (member{h.Typeflag, h.Name, h.Linkname, h.Mode, string(data)}); err != nil || got != m || h.Uid != 0 || h.ModTime.Unix() != 0 {
			t.Errorf("member %d is %v, %v, want %v", i, h, err, m)
		}
	}
	if _, err := r.Next(); err != io.EOF {
		t.Error(err)
	}
}

// P20.3: the archive is appended to what the sink contains, however the sink splits the writes.
func TestPackAppends(t *testing.T) {
	f := made(t, vfs.Options{First: 1, Step: 1, Rotate: []int{3, 1}}, some...)
	wanted := encoded(t, some...)
	for _, chunks := range [][]int{nil, {1}, {7, 100}, {511}, {513, 1}, {-1, 5, 0}, {math.MaxInt}} {
		s := sink.New(api.Script{Chunks: chunks, FailAt: -1})
		want(t, s.WriteAll([]byte("before")), api.OK)
		for range 2 {
			if path, err := walk.Pack(f, s); path != "" || err != api.OK {
				t.Errorf("Pack() = %q, %v", path, err)
			}
		}
		if string(s.Bytes()) != "before"+wanted+wanted {
			t.Errorf("with the chunks %v, the sink contains something else", chunks)
		}
	}
}

// P20.3, P6: if the sink fails at a byte, the error is that of the sink, without a path, and exactly the bytes before have been written.
func TestPackFails(t *testing.T) {
	f := made(t, plain, dir("d", 0), file("d/a", 0, 1, x(600)), file("d/b", 0, 1, x(600)), symlink(x(101), x(101)))
	wanted := encoded(t, dir("d", 0), file("d/a", 0, 1, x(600)), file("d/b", 0, 1, x(600)), symlink(x(101), x(101)))
	for k := range len(wanted) + 3 {
		s := sink.New(api.Script{Chunks: []int{300, 1}, FailAt: int64(k)})
		err := api.ErrIO
		if k >= len(wanted) {
			err = api.OK
		}
		if path, got := walk.Pack(f, s); path != "" || got != err {
			t.Errorf("with a failure at %d, Pack() = %q, %v", k, path, got)
		}
		if n := min(k, len(wanted)); string(s.Bytes()) != wanted[:n] {
			t.Errorf("with a failure at %d, the sink contains %d bytes", k, s.Len())
		}
	}
}

// P20.3: the tree of a file system is valid, whatever the file system contains, so that there is an archive of it.
func TestPackLongValues(t *testing.T) {
	deep := "d"
	var l []api.Node
	for len(deep) <= maxPath {
		l = append(l, dir(deep, 4095))
		deep += "/" + x(4000)
	}
	l = append(l, file(x(maxPath), 4095, 1, "a"), file(x(maxPath-1), 4095, 1, "a"), symlink("l", x(maxPath)), symlink("m", strings.Repeat("/", maxPath)), file(x(100), 0, 0, ""), file(x(101), 0, 0, ""), file("d/"+x(155)+"é", 0, 0, ""))
	f := made(t, vfs.Options{First: 1, Step: 1, Rotate: []int{1}}, l...)
	stream := packed(t, f)
	if stream != encoded(t, l...) {
		t.Error("the archive is not that of the tree")
	}
	back, n, err := archive.Decode([]byte(stream))
	if n != int64(len(stream)) || err != api.OK || show(back) != show(canonical(l)) {
		t.Errorf("Decode() = %s, %d, %v", cut(show(back)), n, err)
	}
}

// randomTree returns nodes of random kinds, in no particular order.
func randomTree(random *rand.Rand) []api.Node {
	names := []string{"a", "b", "a-", "a0", "\xff", "ab", ".a"}
	parents := []string{""}
	seen := map[string]bool{}
	var l []api.Node
	for range random.Intn(25) {
		path := parents[random.Intn(len(parents))] + names[random.Intn(len(names))]
		if seen[path] {
			continue
		}
		seen[path] = true
		mode := random.Intn(4096)
		switch random.Intn(4) {
		case 0:
			l = append(l, dir(path, mode))
			parents = append(parents, path+"/")
		case 1:
			l = append(l, symlink(path, names[random.Intn(len(names))]))
		case 2:
			l = append(l, file(path, mode, 0, x(random.Intn(3))))
		case 3:
			// The files of a class have the same mode and contents.
			class := 1 + random.Intn(4)
			l = append(l, file(path, class, class, x(class)))
		}
	}
	return l
}

// randomFS returns a file system with the files of a tree, in which everything else is random.
func randomFS(t *testing.T, random *rand.Rand, l []api.Node) *vfs.FS {
	t.Helper()
	o := vfs.Options{First: 1 + random.Intn(maxNumber), Step: 1 + random.Intn(maxNumber)}
	for range random.Intn(5) {
		o.Rotate = append(o.Rotate, random.Intn(10))
	}
	f := made(t, o, shuffled(random, l)...)
	for _, n := range l {
		if random.Intn(2) == 0 {
			want(t, f.Chown(n.Path, random.Int(), random.Int63()), api.OK)
		}
		if random.Intn(3) == 0 {
			f.List(n.Path)
		}
	}
	return f
}

// P20.1 to P20.4, P5: the results depend only on the abstract tree.
func TestRandomTrees(t *testing.T) {
	random := rand.New(rand.NewSource(20))
	for range 1000 {
		l := randomTree(random)
		wanted := canonical(l)
		stream := encoded(t, l...)
		var paths []string
		for _, n := range wanted {
			paths = append(paths, n.Path)
		}
		for range 4 {
			f := randomFS(t, random, l)
			wantTree(t, f, wanted...)
			wantPaths(t, f, paths...)
			if packed(t, f) != stream {
				t.Errorf("the archive of %s is not that of the tree", cut(show(l)))
			}
			if t.Failed() {
				return
			}
		}
	}
}

// P20.2 to P20.4: file systems with different trees have different trees, and archives.
func TestDifferentTrees(t *testing.T) {
	base := []api.Node{dir("d", 1), file("d/a", 1, 0, "a"), file("d/b", 1, 0, "a"), symlink("s", "t")}
	streams := map[string]int{}
	for i, l := range [][]api.Node{
		base,
		base[:3],
		append(slices.Clone(base), dir("e", 1)),
		append(slices.Clone(base), file("e", 1, 0, "")),
		append(slices.Clone(base), symlink("e", "t")),
		{dir("e", 1), file("e/a", 1, 0, "a"), file("e/b", 1, 0, "a"), symlink("s", "t")},
		{dir("d", 2), file("d/a", 1, 0, "a"), file("d/b", 1, 0, "a"), symlink("s", "t")},
		{dir("d", 1), file("d/a", 2, 0, "a"), file("d/b", 1, 0, "a"), symlink("s", "t")},
		{dir("d", 1), file("d/a", 1, 0, "b"), file("d/b", 1, 0, "a"), symlink("s", "t")},
		{dir("d", 1), file("d/a", 1, 0, "a\x00"), file("d/b", 1, 0, "a"), symlink("s", "t")},
		{dir("d", 1), file("d/a", 1, 1, "a"), file("d/b", 1, 1, "a"), symlink("s", "t")},
		{dir("d", 1), file("d/a", 1, 0, "a"), file("d/b", 1, 0, "a"), symlink("s", "d")},
	} {
		f := made(t, plain, l...)
		wantTree(t, f, canonical(l)...)
		stream := packed(t, f)
		if other, ok := streams[stream]; ok {
			t.Errorf("the trees %d and %d have the same archive", other, i)
		}
		streams[stream] = i
	}
}

// P20.4: owners and times, one at a time.
func TestOwners(t *testing.T) {
	wanted := encoded(t, some...)
	numbers := []int{math.MinInt, -1, 0, 1, 1000, math.MaxInt}
	for _, n := range append([]api.Node{{}}, some...) {
		for _, uid := range numbers {
			f := made(t, plain, some...)
			want(t, f.Chown(n.Path, uid, 0), api.OK)
			wantTree(t, f, some...)
			want(t, f.Chown(n.Path, 0, int64(uid)), api.OK)
			wantTree(t, f, some...)
			if packed(t, f) != wanted {
				t.Errorf("the archive has the owner or the time %d of %q", uid, n.Path)
			}
		}
	}
}

// P20.4: inode numbers and listings.
func TestOptions(t *testing.T) {
	wanted := encoded(t, some...)
	numbers := []int{1, 2, 3, 10, 999999, maxNumber}
	for _, first := range numbers {
		for _, step := range numbers {
			for _, rotate := range listings {
				f := made(t, vfs.Options{First: first, Step: step, Rotate: rotate}, some...)
				wantTree(t, f, some...)
				if packed(t, f) != wanted {
					t.Errorf("the archive depends on %d, %d, %v", first, step, rotate)
				}
			}
		}
	}
}

// P20.2: the result is valid and canonical.
func TestCanonical(t *testing.T) {
	random := rand.New(rand.NewSource(21))
	for range 200 {
		l, _, _ := walk.Walk(randomFS(t, random, randomTree(random)))
		if n, err := tree.Check(l); n != len(l) || err != api.OK {
			t.Errorf("Check(%s) = %d, %v", cut(show(l)), n, err)
		}
		if show(tree.Canon(l)) != show(l) {
			t.Errorf("%s is not canonical", cut(show(l)))
		}
	}
}

// state returns a text with the metadata and the contents of files.
func state(f *vfs.FS, l []api.Node) string {
	text := ""
	for _, n := range append([]api.Node{{}}, l...) {
		i, err := f.Lstat(n.Path)
		b, readErr := f.ReadFile(n.Path)
		text += fmt.Sprintf("%q %+v %v %q %v\n", n.Path, i, err, b, readErr)
	}
	return text
}

// Rule 3: calls, successful or not, do not change the files of a file system.
func TestFileSystemUnchanged(t *testing.T) {
	for _, l := range [][]api.Node{some, append(slices.Clone(some), device("d/n"))} {
		f := made(t, plain, l...)
		before := state(f, l)
		walk.Paths(f)
		walk.Walk(f)
		walk.Pack(f, nil)
		walk.Pack(f, sink.New(always))
		walk.Pack(f, sink.New(api.Script{FailAt: 700}))
		if after := state(f, l); after != before {
			t.Errorf("%s\nhas become\n%s", before, after)
		}
		paths, _ := walk.Paths(f)
		if len(paths) != len(l) {
			t.Errorf("%q", paths)
		}
		// Files and links have been created in the order of the list, with an inode number for each file.
		inode := 2
		for _, n := range l {
			if n.Class == 0 {
				inode++
			}
		}
		inode += 3
		want(t, f.Mkdir("new", 0), api.OK)
		if i, _ := f.Lstat("new"); i.Inode != inode {
			t.Errorf("the next inode number is %d, want %d", i.Inode, inode)
		}
	}
}

// Rule 4: the results are the caller's memory.
func TestResults(t *testing.T) {
	f := made(t, plain, some...)
	wanted := show(some)
	first, _, _ := walk.Walk(f)
	second, _, _ := walk.Walk(f)
	for i := range first {
		for j := range first[i].Data {
			first[i].Data[j] = 'X'
		}
		_ = append(first[i].Data, 'Y')
		first[i] = api.Node{}
	}
	if show(second) != wanted {
		t.Errorf("%s", show(second))
	}
	wantTree(t, f, some...)
	// The nodes of one class share no memory either.
	for i := range second {
		before := show(second[i+1:])
		for j := range second[i].Data {
			second[i].Data[j] = 'X'
		}
		if show(second[i+1:]) != before {
			t.Errorf("the contents of %q are shared", second[i].Path)
		}
	}
	paths, _ := walk.Paths(f)
	others, _ := walk.Paths(f)
	for i := range paths {
		paths[i] = "changed"
	}
	if len(others) != len(some) || slices.Contains(others, "changed") {
		t.Errorf("%q", others)
	}
	wantTree(t, f, some...)
	if packed(t, f) != encoded(t, some...) {
		t.Error("the archive has changed")
	}
}

// P2, rule 6: file systems are independent of each other, also at the same time.
func TestIndependent(t *testing.T) {
	wanted := encoded(t, some...)
	var group sync.WaitGroup
	for i := range 8 {
		group.Go(func() {
			o := vfs.Options{First: 1 + i, Step: 1 + i, Rotate: []int{i, 1}}
			for range 20 {
				f, g := made(t, o, some...), made(t, o, device("n"))
				wantError(t, g, "n", api.ErrKind)
				wantTree(t, f, some...)
				wantPaths(t, g, "n")
				if packed(t, f) != wanted {
					t.Error("another archive")
				}
			}
		})
	}
	group.Wait()
}

// P1: many files in one directory, many directories, and many links.
func TestManyFiles(t *testing.T) {
	const n = 10000
	f := made(t, vfs.Options{First: 1, Step: 1, Rotate: []int{1, 4}}, dir("links", 0), file("links/0", 0, 0, "data"))
	for i := range n {
		name := strconv.Itoa(n + i)
		add(t, f, api.Node{Path: "links/" + name}, "links/0")
		add(t, f, dir(name, 0), "")
		add(t, f, file(name+"/f", 0, 0, name), "")
	}
	l, path, err := walk.Walk(f)
	if len(l) != 3*n+2 || path != "" || err != api.OK {
		t.Fatalf("Walk() = %d nodes, %q, %v", len(l), path, err)
	}
	for i := range n {
		name := strconv.Itoa(n + i)
		three := []api.Node{l[2*i], l[2*i+1], l[2*n+2+i]}
		if wanted := show([]api.Node{dir(name, 0), file(name+"/f", 0, 0, name), file("links/"+name, 0, 1, "data")}); show(three) != wanted {
			t.Fatalf("%s, want %s", show(three), wanted)
		}
	}
	add(t, f, device("zz"), "")
	wantError(t, f, "zz", api.ErrKind)
}

// P1: one directory in another, as deep as a path permits.
func TestDeep(t *testing.T) {
	const depth = 2000
	f := empty(t, vfs.Options{First: 1, Step: 1, Rotate: []int{1}})
	path, nodes := "d", []api.Node{}
	for range depth {
		nodes = append(nodes, dir(path, 0))
		add(t, f, dir(path, 0), "")
		path += "/d"
	}
	nodes = append(nodes, file(path, 0, 0, "deep"))
	add(t, f, file(path, 0, 0, "deep"), "")
	wantTree(t, f, nodes...)
	if packed(t, f) != encoded(t, nodes...) {
		t.Error("the archive is not that of the tree")
	}
}

// Rule 7: the results of equal calls are equal.
func TestDeterministic(t *testing.T) {
	first := ""
	for i := range 20 {
		random := rand.New(rand.NewSource(7))
		l := randomTree(random)
		text := packed(t, randomFS(t, random, l))
		if i == 0 {
			first = text
		}
		if text != first {
			t.Fatal("another archive")
		}
	}
}
