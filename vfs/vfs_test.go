package vfs_test

import (
	"bytes"
	"fmt"
	"math"
	"math/rand"
	"regexp"
	"slices"
	"strconv"
	"strings"
	"sync"
	"testing"

	"paxtar/api"
	"paxtar/vfs"
)

const (
	maxPath   = 65536
	maxMode   = 4095
	maxNumber = 1000000
)

// plain are the options of a file system with the inode numbers 1, 2, and so on, and sorted listings.
var plain = vfs.Options{First: 1, Step: 1}

// x returns a string of n bytes without a slash.
func x(n int) string { return strings.Repeat("x", n) }

func cut(s string) string {
	if len(s) > 600 {
		s = s[:600] + "…"
	}
	return s
}

// made returns a new file system.
func made(t *testing.T, o vfs.Options) *vfs.FS {
	t.Helper()
	f, err := vfs.New(o)
	if f == nil || err != api.OK {
		t.Fatalf("New(%v) = %v, %v", o, f, err)
	}
	return f
}

// kinds returns a file system with files of all kinds, among which b is another path of d/a.
func kinds(t *testing.T, o vfs.Options) *vfs.FS {
	t.Helper()
	f := made(t, o)
	want(t, f.Mkdir("d", 0o750), api.OK)
	want(t, f.Create("d/a", 0o640, []byte("abc")), api.OK)
	want(t, f.Symlink("d/s", "a"), api.OK)
	want(t, f.Mknod("d/n", 0o600), api.OK)
	want(t, f.Link("b", "d/a"), api.OK)
	want(t, f.Symlink("s", "d"), api.OK)
	return f
}

// kindPaths are the paths of kinds.
var kindPaths = []string{"", "d", "d/a", "d/s", "d/n", "b", "s"}

func want(t *testing.T, got, want api.Errno) {
	t.Helper()
	if got != want {
		t.Errorf("%v, want %v", got, want)
	}
}

func wantInfo(t *testing.T, f *vfs.FS, path string, want vfs.Info) {
	t.Helper()
	for range 2 {
		if i, err := f.Lstat(path); i != want || err != api.OK {
			t.Errorf("Lstat(%q) = %+v, %v, want %+v", cut(path), i, err, want)
		}
	}
}

func wantNoInfo(t *testing.T, f *vfs.FS, path string, want api.Errno) {
	t.Helper()
	if i, err := f.Lstat(path); i != (vfs.Info{}) || err != want {
		t.Errorf("Lstat(%q) = %+v, %v, want %v", cut(path), i, err, want)
	}
}

func wantData(t *testing.T, f *vfs.FS, path, want string) {
	t.Helper()
	for range 2 {
		if b, err := f.ReadFile(path); string(b) != want || err != api.OK {
			t.Errorf("ReadFile(%q) = %q, %v, want %q", cut(path), cut(string(b)), err, cut(want))
		}
	}
}

func wantNoData(t *testing.T, f *vfs.FS, path string, want api.Errno) {
	t.Helper()
	if b, err := f.ReadFile(path); len(b) != 0 || err != want {
		t.Errorf("ReadFile(%q) = %q, %v, want %v", cut(path), cut(string(b)), err, want)
	}
}

func wantNames(t *testing.T, f *vfs.FS, path string, want ...string) {
	t.Helper()
	if l, err := f.List(path); !slices.Equal(l, want) || err != api.OK {
		t.Errorf("List(%q) = %s, %v, want %s", cut(path), cut(fmt.Sprintf("%q", l)), err, cut(fmt.Sprintf("%q", want)))
	}
}

func wantNoNames(t *testing.T, f *vfs.FS, path string, want api.Errno) {
	t.Helper()
	if l, err := f.List(path); len(l) != 0 || err != want {
		t.Errorf("List(%q) = %s, %v, want %v", cut(path), cut(fmt.Sprintf("%q", l)), err, want)
	}
}

// wantNothing checks that there is no file with a path.
func wantNothing(t *testing.T, f *vfs.FS, path string) {
	t.Helper()
	wantNoInfo(t, f, path, api.ErrNotFound)
	wantNoData(t, f, path, api.ErrNotFound)
	wantNoNames(t, f, path, api.ErrNotFound)
	want(t, f.Chown(path, 1, 1), api.ErrNotFound)
}

// dump returns a text with all that can be observed of a file system whose listings are not rotated. It finds the files from the root directory on.
func dump(t *testing.T, f *vfs.FS) string {
	t.Helper()
	var text strings.Builder
	var visit func(path string)
	visit = func(path string) {
		i, err := f.Lstat(path)
		b, readErr := f.ReadFile(path)
		l, listErr := f.List(path)
		fmt.Fprintf(&text, "%q %+v %v %q %v %q %v\n", path, i, err, b, readErr, l, listErr)
		for _, name := range l {
			if path == "" {
				visit(name)
			} else {
				visit(path + "/" + name)
			}
		}
	}
	visit("")
	return text.String()
}

// nextInode creates a file and returns its inode number.
func nextInode(t *testing.T, f *vfs.FS) int {
	t.Helper()
	const path = "the next one"
	want(t, f.Mkdir(path, 0), api.OK)
	i, err := f.Lstat(path)
	want(t, err, api.OK)
	return i.Inode
}

// wantUnchanged checks that a call returns an error and has no other effect on a file system in which n files have been created after the root directory.
func wantUnchanged(t *testing.T, f *vfs.FS, n int, wanted api.Errno, call func() api.Errno) {
	t.Helper()
	before := dump(t, f)
	want(t, call(), wanted)
	if after := dump(t, f); after != before {
		t.Errorf("the call with %v has changed\n%s\nto\n%s", wanted, cut(before), cut(after))
	}
	if i := nextInode(t, f); i != n+2 {
		t.Errorf("after the call with %v, the next inode number is %d, want %d", wanted, i, n+2)
	}
}

// The chapter's example.
func TestExample(t *testing.T) {
	f := made(t, plain)
	want(t, f.Create("a", 0o644, nil), api.OK)
	want(t, f.Link("b", "a"), api.OK)
	wantInfo(t, f, "a", vfs.Info{Kind: api.File, Mode: 0o644, Inode: 2, Links: 2})
	wantInfo(t, f, "b", vfs.Info{Kind: api.File, Mode: 0o644, Inode: 2, Links: 2})
}

// P19.1
func TestNewNumbers(t *testing.T) {
	numbers := []int{math.MinInt, math.MinInt + 1, math.MinInt32, -1000000, -2, -1, 0, 1, 2, 3, 1000, 999999, maxNumber, maxNumber + 1, maxNumber + 2, 1<<31 - 1, 1 << 31, 1<<32 + 1, math.MaxInt - 1, math.MaxInt}
	valid := numbers[7:13]
	for _, first := range numbers {
		for _, step := range numbers {
			f, err := vfs.New(vfs.Options{First: first, Step: step})
			if !slices.Contains(valid, first) || !slices.Contains(valid, step) {
				if f != nil || err != api.ErrArg {
					t.Errorf("New with %d, %d = %v, %v", first, step, f, err)
				}
				continue
			}
			want(t, err, api.OK)
			wantInfo(t, f, "", vfs.Info{Mode: 0o755, Inode: first, Links: 1})
			if i := nextInode(t, f); i != first+step {
				t.Errorf("New with %d, %d has the next inode number %d", first, step, i)
			}
		}
	}
}

// P19.1: one negative element, whatever its index is.
func TestNewRotate(t *testing.T) {
	for n := 1; n <= 20; n++ {
		for i := range n {
			for _, r := range []int{-1, -2, -1000, math.MinInt32, math.MinInt} {
				o := vfs.Options{First: 1, Step: 1, Rotate: slices.Repeat([]int{3}, n)}
				made(t, o)
				o.Rotate[i] = r
				if f, err := vfs.New(o); f != nil || err != api.ErrArg {
					t.Errorf("New with %v = %v, %v", o.Rotate, f, err)
				}
			}
		}
	}
	for _, l := range [][]int{nil, {}, {0}, {1}, {math.MaxInt}, {0, math.MaxInt, 0}, make([]int, 100000)} {
		made(t, vfs.Options{First: 1, Step: 1, Rotate: l})
	}
	// The elements beyond the length of a slice are none.
	made(t, vfs.Options{First: 1, Step: 1, Rotate: []int{0, -1}[:1]})
}

// P19.1
func TestNewContainsOnlyTheRoot(t *testing.T) {
	f := made(t, plain)
	wantInfo(t, f, "", vfs.Info{Kind: api.Dir, Mode: 493, Inode: 1, Links: 1})
	wantNames(t, f, "")
	wantNoData(t, f, "", api.ErrKind)
	for _, path := range []string{"/", "//", ".", "..", "./", "/.", " ", "\x00", "a", "root"} {
		wantNothing(t, f, path)
	}
}

// P19.1, rule 4: the options may be modified afterwards.
func TestNewKeepsNoSlice(t *testing.T) {
	rotate := []int{0, 1, 2, 3}
	f := made(t, vfs.Options{First: 1, Step: 1, Rotate: rotate[:2]})
	if !slices.Equal(rotate, []int{0, 1, 2, 3}) {
		t.Error(rotate)
	}
	rotate[0], rotate[1], rotate[2] = -1, -1, -1
	for _, name := range []string{"a", "b", "c"} {
		want(t, f.Mkdir(name, 0), api.OK)
	}
	for range 2 {
		wantNames(t, f, "", "a", "b", "c")
		wantNames(t, f, "", "a", "c", "b")
	}
	if !slices.Equal(rotate, []int{-1, -1, -1, 3}) {
		t.Error(rotate)
	}
}

// The chapter's introduction: neither hard links nor failed calls use up an inode number.
func TestInodeNumbers(t *testing.T) {
	for _, o := range []vfs.Options{{First: 1, Step: 1}, {First: 7, Step: 3}, {First: maxNumber, Step: 1}, {First: 1, Step: maxNumber}, {First: maxNumber, Step: maxNumber}} {
		f := made(t, o)
		for k := range 100 {
			path := strconv.Itoa(k)
			create := []func() api.Errno{
				func() api.Errno { return f.Mkdir(path, 0) },
				func() api.Errno { return f.Create(path, 0, nil) },
				func() api.Errno { return f.Symlink(path, "t") },
				func() api.Errno { return f.Mknod(path, 0) },
			}
			want(t, create[k%4](), api.OK)
			for _, c := range create {
				want(t, c(), api.ErrDuplicate)
			}
			want(t, f.Mkdir("no/"+path, 0), api.ErrParent)
			if k%4 == 1 {
				want(t, f.Link("l"+path, path), api.OK)
			} else {
				want(t, f.Link("l"+path, path), api.ErrLink)
			}
			want(t, f.Chown(path, 0, 0), api.OK)
			if i, err := f.Lstat(path); i.Inode != o.First+(k+1)*o.Step || err != api.OK {
				t.Errorf("with %d, %d, the inode number of file %d is %d", o.First, o.Step, k+1, i.Inode)
			}
			_, err := f.List("")
			want(t, err, api.OK)
		}
		wantInfo(t, f, "l97", vfs.Info{Kind: api.File, Inode: o.First + 98*o.Step, Links: 2})
		wantInfo(t, f, "", vfs.Info{Mode: 0o755, Inode: o.First, Links: 1})
	}
}

// P19.2, P19.3: the metadata of new files of all kinds.
func TestNewFiles(t *testing.T) {
	f := kinds(t, vfs.Options{First: 10, Step: 5})
	wantInfo(t, f, "", vfs.Info{Kind: 0, Mode: 0o755, Inode: 10, Links: 1})
	wantInfo(t, f, "d", vfs.Info{Kind: 0, Mode: 0o750, Inode: 15, Links: 1})
	wantInfo(t, f, "d/a", vfs.Info{Kind: 1, Mode: 0o640, Inode: 20, Links: 2, Size: 3})
	wantInfo(t, f, "d/s", vfs.Info{Kind: 2, Mode: 511, Inode: 25, Links: 1, Target: "a"})
	wantInfo(t, f, "d/n", vfs.Info{Kind: 4, Mode: 0o600, Inode: 30, Links: 1})
	wantInfo(t, f, "b", vfs.Info{Kind: 1, Mode: 0o640, Inode: 20, Links: 2, Size: 3})
	wantInfo(t, f, "s", vfs.Info{Kind: 2, Mode: 511, Inode: 35, Links: 1, Target: "d"})
	wantNames(t, f, "", "b", "d", "s")
	wantNames(t, f, "d", "a", "n", "s")
	wantData(t, f, "d/a", "abc")
	wantData(t, f, "b", "abc")
}

// P19.2: the bounds of the mode, which the mode of a symbolic link does not concern.
func TestModes(t *testing.T) {
	modes := []int{math.MinInt, math.MinInt + 1, math.MinInt32, -4096, -4095, 4096 + 0o644, 1 << 16, 1<<31 - 1, 1 << 32, math.MaxInt - 1, math.MaxInt}
	for mode := -20; mode < 4120; mode++ {
		modes = append(modes, mode)
	}
	f := made(t, plain)
	n := 0
	for _, mode := range modes {
		name := strconv.Itoa(mode)
		wanted := api.ErrMode
		if mode >= 0 && mode <= maxMode {
			wanted = api.OK
		}
		want(t, f.Mkdir("d"+name, mode), wanted)
		want(t, f.Create("f"+name, mode, nil), wanted)
		want(t, f.Mknod("n"+name, mode), wanted)
		if wanted != api.OK {
			wantNothing(t, f, "d"+name)
			wantNothing(t, f, "f"+name)
			wantNothing(t, f, "n"+name)
			continue
		}
		wantInfo(t, f, "d"+name, vfs.Info{Kind: api.Dir, Mode: mode, Inode: n + 2, Links: 1})
		wantInfo(t, f, "f"+name, vfs.Info{Kind: api.File, Mode: mode, Inode: n + 3, Links: 1})
		wantInfo(t, f, "n"+name, vfs.Info{Kind: api.Device, Mode: mode, Inode: n + 4, Links: 1})
		n += 3
	}
	if n != 3*4096 {
		t.Errorf("%d files have been created", n)
	}
}

// pathErrors are invalid paths and their errors.
var pathErrors = map[string]api.Errno{
	"": api.ErrSyntax, "/": api.ErrSyntax, "/a": api.ErrSyntax, "d/": api.ErrSyntax, "d//a": api.ErrSyntax, ".": api.ErrSyntax, "..": api.ErrSyntax, "./a": api.ErrSyntax, "d/.": api.ErrSyntax, "d/..": api.ErrSyntax, "d/../a": api.ErrSyntax, "\x00": api.ErrSyntax, "d/\x00": api.ErrSyntax, "no/": api.ErrSyntax, "no//a": api.ErrSyntax,
	x(maxPath-1) + "/": api.ErrSyntax, "d/" + x(maxPath-3) + "\x00": api.ErrSyntax,
	x(maxPath + 1): api.ErrTooLong, "/" + x(maxPath): api.ErrTooLong, "no/" + x(maxPath): api.ErrTooLong, "\x00" + x(maxPath): api.ErrTooLong,
}

// P19.2: the error of the path precedes all others.
func TestInvalidPaths(t *testing.T) {
	for path, err := range pathErrors {
		f := kinds(t, plain)
		for _, call := range []func() api.Errno{
			func() api.Errno { return f.Mkdir(path, 0) },
			func() api.Errno { return f.Mkdir(path, -1) },
			func() api.Errno { return f.Create(path, 0, []byte("a")) },
			func() api.Errno { return f.Create(path, 4096, nil) },
			func() api.Errno { return f.Symlink(path, "a") },
			func() api.Errno { return f.Symlink(path, "") },
			func() api.Errno { return f.Symlink(path, x(maxPath+1)) },
			func() api.Errno { return f.Mknod(path, 0) },
			func() api.Errno { return f.Mknod(path, math.MinInt) },
			func() api.Errno { return f.Link(path, "b") },
			func() api.Errno { return f.Link(path, "d") },
			func() api.Errno { return f.Link(path, "none") },
			func() api.Errno { return f.Link(path, path) },
		} {
			f = kinds(t, plain)
			wantUnchanged(t, f, 5, err, call)
		}
	}
}

// P19.2: valid paths of all kinds.
func TestValidPaths(t *testing.T) {
	for _, path := range []string{"a", "...", ".a", "a.", " ", "\n", "\\", "\xff", "\xc0\xaf", "-", "*", "\u00e9", "\U0001f600", x(100), x(101), x(maxPath - 1), x(maxPath)} {
		for i, create := range []func(f *vfs.FS, path string) api.Errno{
			func(f *vfs.FS, path string) api.Errno { return f.Mkdir(path, 1) },
			func(f *vfs.FS, path string) api.Errno { return f.Create(path, 1, []byte(path)) },
			func(f *vfs.FS, path string) api.Errno { return f.Symlink(path, path) },
			func(f *vfs.FS, path string) api.Errno { return f.Mknod(path, 1) },
			func(f *vfs.FS, path string) api.Errno { return f.Link(path, "f") },
		} {
			f := made(t, plain)
			want(t, f.Create("f", 1, []byte("f")), api.OK)
			want(t, create(f, path), api.OK)
			wantInfo(t, f, path, []vfs.Info{
				{Kind: api.Dir, Mode: 1, Inode: 3, Links: 1},
				{Kind: api.File, Mode: 1, Inode: 3, Links: 1, Size: int64(len(path))},
				{Kind: api.Symlink, Mode: 0o777, Inode: 3, Links: 1, Target: path},
				{Kind: api.Device, Mode: 1, Inode: 3, Links: 1},
				{Kind: api.File, Mode: 1, Inode: 2, Links: 2, Size: 1},
			}[i])
			l := []string{"f", path}
			slices.Sort(l)
			wantNames(t, f, "", l...)
		}
	}
}

// P19.2: the targets of symbolic links, which need not be paths of files nor valid paths.
func TestTargets(t *testing.T) {
	for _, target := range []string{"a", "l", ".", "..", "/", "//", "/a", "a/", "../a", "a//b", " ", "\n", "=", "\xff", "\u00e9", x(101), x(maxPath - 1), x(maxPath), strings.Repeat("/", maxPath)} {
		f := made(t, plain)
		want(t, f.Symlink("l", target), api.OK)
		wantInfo(t, f, "l", vfs.Info{Kind: api.Symlink, Mode: 0o777, Inode: 2, Links: 1, Target: target})
	}
	for target, err := range map[string]api.Errno{"": api.ErrSyntax, "\x00": api.ErrSyntax, "a\x00": api.ErrSyntax, "\x00a": api.ErrSyntax, "a\x00b": api.ErrSyntax, x(maxPath-1) + "\x00": api.ErrSyntax, x(maxPath + 1): api.ErrTooLong, x(maxPath) + "\x00": api.ErrTooLong, x(1 << 20): api.ErrTooLong} {
		for _, path := range []string{"l", "d", "b", "no/l", "b/l"} {
			f := kinds(t, plain)
			wantUnchanged(t, f, 5, err, func() api.Errno { return f.Symlink(path, target) })
		}
	}
}

// P19.2: the first of several errors, for every combination of them.
func TestOrderOfErrors(t *testing.T) {
	paths := []struct {
		path       string
		err, place api.Errno
	}{
		{"new", 0, 0}, {"d/new", 0, 0},
		{"d", 0, api.ErrDuplicate}, {"d/a", 0, api.ErrDuplicate}, {"d/s", 0, api.ErrDuplicate}, {"d/n", 0, api.ErrDuplicate}, {"b", 0, api.ErrDuplicate},
		{"no/new", 0, api.ErrParent}, {"d/no/new", 0, api.ErrParent}, {"b/new", 0, api.ErrParent}, {"d/a/new", 0, api.ErrParent}, {"d/s/new", 0, api.ErrParent}, {"s/new", 0, api.ErrParent}, {"s/a", 0, api.ErrParent}, {"d/n/new", 0, api.ErrParent},
		{"", api.ErrSyntax, 0}, {"d/", api.ErrSyntax, 0}, {"no//a", api.ErrSyntax, api.ErrParent}, {x(maxPath + 1), api.ErrTooLong, 0},
	}
	modes := map[int]api.Errno{0o644: 0, -1: api.ErrMode, 4096: api.ErrMode}
	targets := map[string]api.Errno{"t": 0, "": api.ErrSyntax, x(maxPath + 1): api.ErrTooLong}
	links := map[string]api.Errno{"d/a": 0, "b": 0, "none": api.ErrNotFound, "/": api.ErrNotFound, "d/": api.ErrNotFound, "d//a": api.ErrNotFound, "s/a": api.ErrNotFound, "\x00": api.ErrNotFound, "": api.ErrLink, "d": api.ErrLink, "d/s": api.ErrLink, "d/n": api.ErrLink}
	first := func(l ...api.Errno) api.Errno {
		for _, err := range l {
			if err != api.OK {
				return err
			}
		}
		return api.OK
	}
	check := func(wanted api.Errno, call func(f *vfs.FS) api.Errno) {
		t.Helper()
		f := kinds(t, plain)
		if wanted != api.OK {
			wantUnchanged(t, f, 5, wanted, func() api.Errno { return call(f) })
			return
		}
		want(t, call(f), api.OK)
	}
	for _, p := range paths {
		for mode, err := range modes {
			wanted := first(p.err, err, p.place)
			check(wanted, func(f *vfs.FS) api.Errno { return f.Mkdir(p.path, mode) })
			check(wanted, func(f *vfs.FS) api.Errno { return f.Create(p.path, mode, []byte("a")) })
			check(wanted, func(f *vfs.FS) api.Errno { return f.Mknod(p.path, mode) })
		}
		for target, err := range targets {
			check(first(p.err, err, p.place), func(f *vfs.FS) api.Errno { return f.Symlink(p.path, target) })
		}
		for target, err := range links {
			check(first(p.err, p.place, err), func(f *vfs.FS) api.Errno { return f.Link(p.path, target) })
		}
	}
}

// P19.2: the parent is found by its whole path.
func TestParents(t *testing.T) {
	f := made(t, plain)
	want(t, f.Mkdir("ab", 0), api.OK)
	for _, path := range []string{"a/x", "abc/x", "b/x", "ab/ab/x", "AB/x", "ab /x", "x/ab"} {
		want(t, f.Mkdir(path, 0), api.ErrParent)
		wantNothing(t, f, path)
	}
	want(t, f.Mkdir("ab/ab", 0), api.OK)
	want(t, f.Mkdir("ab/ab/x", 0), api.OK)
	want(t, f.Mkdir("a", 0), api.OK)
	want(t, f.Mkdir("a/x", 0), api.OK)
	wantNames(t, f, "", "a", "ab")
	wantNames(t, f, "ab", "ab")
	wantNames(t, f, "ab/ab", "x")
	wantNames(t, f, "a", "x")
}

// P19.2: a directory does not permit or forbid anything by its mode.
func TestModesPermitAll(t *testing.T) {
	f := made(t, plain)
	want(t, f.Mkdir("d", 0), api.OK)
	want(t, f.Create("d/f", 0, []byte("abc")), api.OK)
	want(t, f.Link("d/g", "d/f"), api.OK)
	wantNames(t, f, "d", "f", "g")
	wantData(t, f, "d/g", "abc")
}

// P19.2: a link is a path like the first one.
func TestLinks(t *testing.T) {
	f := made(t, plain)
	want(t, f.Mkdir("d", 0), api.OK)
	want(t, f.Create("m", 0o600, []byte("abc")), api.OK)
	want(t, f.Create("other", 0o600, []byte("abc")), api.OK)
	paths := []string{"m"}
	for i, path := range []string{"a", "z", "d/m", "d/a", "m m", "b"} {
		// Each is a link to the path before it.
		want(t, f.Link(path, paths[i]), api.OK)
		paths = append(paths, path)
		for _, p := range paths {
			wantInfo(t, f, p, vfs.Info{Kind: api.File, Mode: 0o600, Inode: 3, Links: i + 2, Size: 3})
			wantData(t, f, p, "abc")
		}
	}
	wantInfo(t, f, "other", vfs.Info{Kind: api.File, Mode: 0o600, Inode: 4, Links: 1, Size: 3})
	wantInfo(t, f, "d", vfs.Info{Inode: 2, Links: 1})
	wantNames(t, f, "", "a", "b", "d", "m", "m m", "other", "z")
	wantNames(t, f, "d", "a", "m")
	want(t, f.Link("m", "m"), api.ErrDuplicate)
	want(t, f.Link("other", "m"), api.ErrDuplicate)
	want(t, f.Link("d", "m"), api.ErrDuplicate)
	want(t, f.Link("b/x", "m"), api.ErrParent)
	wantInfo(t, f, "m", vfs.Info{Kind: api.File, Mode: 0o600, Inode: 3, Links: 7, Size: 3})
}

// P19.3
func TestChown(t *testing.T) {
	f := kinds(t, plain)
	infos := map[string]vfs.Info{}
	for _, path := range kindPaths {
		i, err := f.Lstat(path)
		want(t, err, api.OK)
		infos[path] = i
	}
	for _, path := range kindPaths {
		for _, uid := range []int{1, 0, -1, math.MaxInt, math.MinInt, 1000} {
			for _, mtime := range []int64{1, 0, -1, math.MaxInt64, math.MinInt64, 1 << 40, int64(len(path))} {
				want(t, f.Chown(path, uid, mtime), api.OK)
				for p, i := range infos {
					if i.Inode == infos[path].Inode {
						i.Uid, i.Mtime = uid, mtime
						infos[p] = i
					}
					wantInfo(t, f, p, i)
				}
			}
		}
	}
	want(t, f.Link("later", "b"), api.OK)
	wantInfo(t, f, "later", vfs.Info{Kind: api.File, Mode: 0o640, Inode: 3, Links: 3, Size: 3, Uid: 1000, Mtime: 1})
	want(t, f.Mkdir("d/new", 0), api.OK)
	wantInfo(t, f, "d/new", vfs.Info{Inode: 7, Links: 1})
	for _, path := range []string{"/", "d/", "/d", "./d", "d//a", "s/a", "none", "d/none", "b/x", "D", "\x00", x(maxPath + 1)} {
		wantUnchanged(t, kinds(t, plain), 5, api.ErrNotFound, func() api.Errno { return f.Chown(path, 1, 2) })
		wantNothing(t, f, path)
	}
}

// P19.3: no method follows a symbolic link, neither at the end of a path nor before it.
func TestSymlinksAreNotFollowed(t *testing.T) {
	f := kinds(t, plain)
	wantInfo(t, f, "s", vfs.Info{Kind: api.Symlink, Mode: 0o777, Inode: 6, Links: 1, Target: "d"})
	wantNoNames(t, f, "s", api.ErrKind)
	wantNoData(t, f, "s", api.ErrKind)
	wantNoData(t, f, "d/s", api.ErrKind)
	wantNoNames(t, f, "d/s", api.ErrKind)
	wantNothing(t, f, "s/a")
	want(t, f.Chown("s", 5, 6), api.OK)
	want(t, f.Chown("d/s", 7, 8), api.OK)
	wantInfo(t, f, "d", vfs.Info{Mode: 0o750, Inode: 2, Links: 1})
	wantInfo(t, f, "d/a", vfs.Info{Kind: api.File, Mode: 0o640, Inode: 3, Links: 2, Size: 3})
	wantInfo(t, f, "s", vfs.Info{Kind: api.Symlink, Mode: 0o777, Inode: 6, Links: 1, Target: "d", Uid: 5, Mtime: 6})
	want(t, f.Link("x", "d/s"), api.ErrLink)
	want(t, f.Link("x", "s/a"), api.ErrNotFound)
	want(t, f.Link("s/x", "b"), api.ErrParent)
	want(t, f.Create("s/x", 0, nil), api.ErrParent)
	want(t, f.Create("s", 0, nil), api.ErrDuplicate)
	want(t, f.Mkdir("s", 0), api.ErrDuplicate)
}

// P19.4
func TestReadFile(t *testing.T) {
	f := made(t, plain)
	for i, data := range []string{"", "\x00", "abc", "a\nb", x(511), x(512), x(513), strings.Repeat("\x00", 10000), strings.Repeat("\xff\x00", 1<<20)} {
		name := strconv.Itoa(i)
		want(t, f.Create(name, 0, []byte(data)), api.OK)
		want(t, f.Link("l"+name, name), api.OK)
		wantData(t, f, name, data)
		wantData(t, f, "l"+name, data)
		wantInfo(t, f, name, vfs.Info{Kind: api.File, Inode: i + 2, Links: 2, Size: int64(len(data))})
	}
	want(t, f.Create("nil", 0, nil), api.OK)
	wantData(t, f, "nil", "")
	f = kinds(t, plain)
	for _, path := range []string{"", "d", "d/s", "d/n", "s"} {
		wantNoData(t, f, path, api.ErrKind)
	}
	for _, path := range []string{"/", "b/", "/b", "./b", "d//a", "none", "d/none", "b/x", "s/a", "B", "\x00", x(maxPath + 1)} {
		wantNoData(t, f, path, api.ErrNotFound)
	}
}

// P19.4: Create copies its argument, and ReadFile returns new memory.
func TestDataIsCopied(t *testing.T) {
	data := []byte("abcdef")
	f := made(t, plain)
	want(t, f.Create("f", 0, data[:3]), api.OK)
	want(t, f.Create("g", 0, data[:3]), api.OK)
	want(t, f.Link("l", "f"), api.OK)
	if string(data) != "abcdef" {
		t.Errorf("%q", data)
	}
	copy(data, "123456")
	for _, path := range []string{"f", "g", "l"} {
		wantData(t, f, path, "abc")
	}
	a, _ := f.ReadFile("f")
	b, _ := f.ReadFile("f")
	c, _ := f.ReadFile("l")
	copy(a, "xyz")
	_ = append(a[:1], "uvw"...)
	if string(b) != "abc" || string(c) != "abc" {
		t.Errorf("%q %q", b, c)
	}
	for _, path := range []string{"f", "g", "l"} {
		wantData(t, f, path, "abc")
	}
	if string(data) != "123456" {
		t.Errorf("%q", data)
	}
}

// P19.5: errors, which do not advance the rotation.
func TestListErrors(t *testing.T) {
	f := kinds(t, vfs.Options{First: 1, Step: 1, Rotate: []int{0, 1, 2}})
	for range 3 {
		for _, names := range [][]string{{"a", "n", "s"}, {"a", "s", "n"}, {"s", "a", "n"}} {
			for _, path := range []string{"d/a", "d/s", "d/n", "b", "s"} {
				wantNoNames(t, f, path, api.ErrKind)
			}
			for _, path := range []string{"/", "d/", "/d", "./d", "none", "d/none", "b/x", "s/a", "D", "\x00", x(maxPath + 1)} {
				wantNoNames(t, f, path, api.ErrNotFound)
			}
			wantNames(t, f, "d", names...)
		}
	}
}

// P19.5: the chapter's words, for directories of up to 8 names and many rotations.
func TestListRotations(t *testing.T) {
	rotations := []int{math.MaxInt, math.MaxInt - 1, math.MaxInt - 2, math.MaxInt32, 1 << 32, 1<<32 + 1}
	for r := range 40 {
		rotations = append(rotations, r)
	}
	f := made(t, vfs.Options{First: 1, Step: 1, Rotate: rotations})
	letters := []string{"a", "b", "c", "d", "e", "f", "g", "h"}
	for n := range 9 {
		directory := "d" + strconv.Itoa(n)
		want(t, f.Mkdir(directory, 0), api.OK)
		// They are created in another order.
		for i := range n {
			want(t, f.Mkdir(directory+"/"+letters[n-1-i], 0), api.OK)
		}
	}
	for range 2 {
		for n := range 9 {
			for _, r := range rotations {
				wantNames(t, f, "d"+strconv.Itoa(n), rotated(letters[:n], r)...)
			}
		}
	}
}

// rotated moves the first name to the end, again and again, and then puts each name before those in front of it if r is odd.
func rotated(names []string, r int) []string {
	l := slices.Clone(names)
	for range r % max(len(l), 1) {
		l = append(l[1:], l[0])
	}
	if r&1 == 0 {
		return l
	}
	var back []string
	for _, name := range l {
		back = append([]string{name}, back...)
	}
	return back
}

// P19.5: results written down.
func TestListExamples(t *testing.T) {
	f := made(t, vfs.Options{First: 1, Step: 1, Rotate: []int{0, 1, 2, 3, 4, 5, 6, 7}})
	for _, name := range []string{"c", "a", "b"} {
		want(t, f.Create(name, 0, nil), api.OK)
	}
	for range 2 {
		wantNames(t, f, "", "a", "b", "c")
		wantNames(t, f, "", "a", "c", "b")
		wantNames(t, f, "", "c", "a", "b")
		wantNames(t, f, "", "c", "b", "a")
		wantNames(t, f, "", "b", "c", "a")
		wantNames(t, f, "", "b", "a", "c")
		wantNames(t, f, "", "a", "b", "c")
		wantNames(t, f, "", "a", "c", "b")
	}
}

// P19.5: there is one sequence of rotations for all directories, and the listing of an empty one counts.
func TestListSequence(t *testing.T) {
	f := made(t, vfs.Options{First: 1, Step: 1, Rotate: []int{0, 2}})
	for _, path := range []string{"d", "d/a", "d/b", "d/c", "e", "g"} {
		want(t, f.Mkdir(path, 0), api.OK)
	}
	wantNames(t, f, "d", "a", "b", "c")
	wantNames(t, f, "", "g", "d", "e")
	wantNames(t, f, "d", "a", "b", "c")
	wantNames(t, f, "e")
	wantNames(t, f, "d", "a", "b", "c")
	wantNames(t, f, "d", "c", "a", "b")
	wantNames(t, f, "e")
	wantNames(t, f, "d", "c", "a", "b")
}

// P19.5: names are sorted by their bytes, not by letters, numbers, lengths or paths.
func TestListOrder(t *testing.T) {
	ascending := []string{"\x01", "\n", " ", "!", "-", "...", ".a", "10", "2", "9", "A", "B", "Z", "_", "a", "a\x01", "a b", "a-b", "a.b", "a0", "aB", "aa", "ab", "b", "z", "~", "\x7f", "\x80", "\xc3", "\xc3\xa9", "\xef\xbf\xbd", "\xf0\x9f\x98\x80", "\xff", "\xff\xff"}
	random := rand.New(rand.NewSource(1))
	for range 50 {
		l := slices.Clone(ascending)
		random.Shuffle(len(l), func(i, j int) { l[i], l[j] = l[j], l[i] })
		f := made(t, plain)
		want(t, f.Mkdir("dir", 0), api.OK)
		for i, name := range l {
			want(t, f.Mkdir("dir/"+name, 0), api.OK)
			if i%3 == 0 {
				want(t, f.Create("dir/"+name+"/inside", 0, nil), api.OK)
			}
			if i%5 == 0 {
				// A listing does not matter for the next one.
				_, err := f.List("dir")
				want(t, err, api.OK)
			}
		}
		wantNames(t, f, "dir", ascending...)
		wantNames(t, f, "", "dir")
	}
}

// P19.5, rule 4: a listing is the caller's memory.
func TestListResult(t *testing.T) {
	f := made(t, plain)
	for _, name := range []string{"c", "b", "a"} {
		want(t, f.Mkdir(name, 0), api.OK)
	}
	first, _ := f.List("")
	second, _ := f.List("")
	for i := range first {
		first[i] = "changed"
	}
	_ = append(first[:1], "changed", "changed", "changed", "changed")
	if !slices.Equal(second, []string{"a", "b", "c"}) {
		t.Error(second)
	}
	wantNames(t, f, "", "a", "b", "c")
	want(t, f.Mkdir("d", 0), api.OK)
	if !slices.Equal(second, []string{"a", "b", "c"}) {
		t.Error(second)
	}
	wantNames(t, f, "", "a", "b", "c", "d")
}

// The line below the chapter's functions.
func TestNil(t *testing.T) {
	var f *vfs.FS
	for _, path := range []string{"a", "", "/", "\x00", x(maxPath + 1)} {
		for _, mode := range []int{0, -1} {
			want(t, f.Mkdir(path, mode), api.ErrNil)
			want(t, f.Create(path, mode, []byte("a")), api.ErrNil)
			want(t, f.Mknod(path, mode), api.ErrNil)
			want(t, f.Chown(path, mode, 1), api.ErrNil)
		}
		want(t, f.Symlink(path, "a"), api.ErrNil)
		want(t, f.Symlink(path, ""), api.ErrNil)
		want(t, f.Link(path, "a"), api.ErrNil)
		wantNoInfo(t, f, path, api.ErrNil)
		wantNoData(t, f, path, api.ErrNil)
		wantNoNames(t, f, path, api.ErrNil)
	}
}

// P2: file systems are independent of each other, also at the same time.
func TestIndependent(t *testing.T) {
	o := vfs.Options{First: 1, Step: 1, Rotate: []int{0, 1}}
	a, b := kinds(t, o), kinds(t, o)
	wantNames(t, a, "", "b", "d", "s")
	want(t, a.Mkdir("e", 0), api.OK)
	want(t, a.Chown("", 1, 1), api.OK)
	want(t, a.Link("l", "b"), api.OK)
	wantNothing(t, b, "e")
	wantNames(t, b, "", "b", "d", "s")
	wantInfo(t, b, "", vfs.Info{Mode: 0o755, Inode: 1, Links: 1})
	wantInfo(t, b, "b", vfs.Info{Kind: api.File, Mode: 0o640, Inode: 3, Links: 2, Size: 3})
	want(t, b.Mkdir("f", 0), api.OK)
	wantInfo(t, b, "f", vfs.Info{Inode: 7, Links: 1})
	var group sync.WaitGroup
	for range 8 {
		group.Go(func() {
			for range 50 {
				f := kinds(t, o)
				wantNames(t, f, "d", "a", "n", "s")
				wantNames(t, f, "d", "a", "s", "n")
			}
		})
	}
	group.Wait()
}

// isPath matches the valid paths among those that are not too long.
var isPath = regexp.MustCompile(`^(?s:[^/\x00.]|[^/\x00.][^/\x00]|\.[^/\x00.]|[^/\x00]{3,})(/(?s:[^/\x00.]|[^/\x00.][^/\x00]|\.[^/\x00.]|[^/\x00]{3,}))*$`)

// modelFile is a file of a model, with its paths.
type modelFile struct {
	paths []string
	info  vfs.Info
	data  string
}

// model is a file system as the chapter describes it: the files in the order of their creation, the root directory first.
type model struct {
	options vfs.Options
	files   []*modelFile
	lists   int
}

func newModel(o vfs.Options) *model {
	return &model{options: o, files: []*modelFile{{paths: []string{""}, info: vfs.Info{Mode: 493, Inode: o.First, Links: 1}}}}
}

func (m *model) find(path string) *modelFile {
	for _, f := range m.files {
		if slices.Contains(f.paths, path) {
			return f
		}
	}
	return nil
}

func (m *model) pathError(path string) api.Errno {
	if len(path) > maxPath {
		return api.ErrTooLong
	}
	if !isPath.MatchString(path) {
		return api.ErrSyntax
	}
	return api.OK
}

func (m *model) placeError(path string) api.Errno {
	parts := strings.Split(path, "/")
	parent := m.find(strings.Join(parts[:len(parts)-1], "/"))
	if parent == nil || parent.info.Kind != api.Dir {
		return api.ErrParent
	}
	if m.find(path) != nil {
		return api.ErrDuplicate
	}
	return api.OK
}

func (m *model) create(path string, i vfs.Info, data string) api.Errno {
	if err := m.pathError(path); err != api.OK {
		return err
	}
	if i.Mode < 0 || i.Mode > maxMode {
		return api.ErrMode
	}
	if i.Kind == api.Symlink && len(i.Target) > maxPath {
		return api.ErrTooLong
	}
	if i.Kind == api.Symlink && (i.Target == "" || strings.Contains(i.Target, "\x00")) {
		return api.ErrSyntax
	}
	if err := m.placeError(path); err != api.OK {
		return err
	}
	i.Inode = m.options.First + len(m.files)*m.options.Step
	i.Links = 1
	i.Size = int64(len(data))
	m.files = append(m.files, &modelFile{paths: []string{path}, info: i, data: data})
	return api.OK
}

func (m *model) link(path, target string) api.Errno {
	if err := m.pathError(path); err != api.OK {
		return err
	}
	if err := m.placeError(path); err != api.OK {
		return err
	}
	f := m.find(target)
	if f == nil {
		return api.ErrNotFound
	}
	if f.info.Kind != api.File {
		return api.ErrLink
	}
	f.paths = append(f.paths, path)
	f.info.Links = len(f.paths)
	return api.OK
}

// list returns the names in a directory for the next listing.
func (m *model) list(path string) ([]string, api.Errno) {
	d := m.find(path)
	if d == nil {
		return nil, api.ErrNotFound
	}
	if d.info.Kind != api.Dir {
		return nil, api.ErrKind
	}
	var l []string
	for _, f := range m.files[1:] {
		for _, p := range f.paths {
			parts := strings.Split(p, "/")
			last := len(parts) - 1
			if strings.Join(parts[:last], "/") == path {
				l = append(l, parts[last])
			}
		}
	}
	slices.Sort(l)
	r := 0
	if n := len(m.options.Rotate); n > 0 {
		r = m.options.Rotate[m.lists%n]
	}
	m.lists++
	return rotated(l, r), api.OK
}

// modelPaths are the paths that the random calls use; modelTexts are, beside them, targets of symbolic links.
var (
	modelPaths = []string{"a", "b", "ab", "a/a", "a/b", "a/ab", "b/a", "b/b", "a/a/a", "a/a/b", "a/b/a", "b/a/a", "ab/a", "ab/b", "", "/", "a/", "/a", "a//a", ".", "a/..", "a/./b", "\x00", "a/\x00", x(maxPath + 1), "a/" + x(maxPath-2)}
	modelTexts = []string{"t", "..", "/", "\x00", "", x(maxPath), x(maxPath + 1)}
)

// wantSame checks that all files of a file system are those of a model.
func wantSame(t *testing.T, f *vfs.FS, m *model) {
	t.Helper()
	for _, path := range modelPaths {
		file := m.find(path)
		names, err := m.list(path)
		switch {
		case err == api.OK:
			wantNames(t, f, path, names...)
			wantNoData(t, f, path, api.ErrKind)
		case err == api.ErrNotFound:
			wantNothing(t, f, path)
			continue
		case file.info.Kind == api.File:
			wantData(t, f, path, file.data)
			wantNoNames(t, f, path, err)
		default:
			wantNoData(t, f, path, api.ErrKind)
			wantNoNames(t, f, path, err)
		}
		wantInfo(t, f, path, file.info)
	}
}

// randomPath returns a path that is valid more often than not.
func randomPath(random *rand.Rand) string {
	return modelPaths[min(random.Intn(len(modelPaths)), random.Intn(len(modelPaths)))]
}

// randomCall does the same with a file system and a model, and returns the kind of the call and its error.
func randomCall(t *testing.T, random *rand.Rand, f *vfs.FS, m *model) (int, api.Errno) {
	t.Helper()
	path, other := randomPath(random), randomPath(random)
	mode := []int{0o644, 0o644, 0o755, 0, maxMode, -1, maxMode + 1}[random.Intn(7)]
	text := append(slices.Clone(modelTexts), path, other)[random.Intn(len(modelTexts)+2)]
	data := text[:random.Intn(min(len(text), 10)+1)]
	mtime := int64(random.Uint64())
	kind := []int{0, 1, 1, 2, 3, 4, 4, 4, 5}[random.Intn(9)]
	var got, wanted api.Errno
	switch kind {
	case 0:
		got, wanted = f.Mkdir(path, mode), m.create(path, vfs.Info{Kind: api.Dir, Mode: mode}, "")
	case 1:
		got, wanted = f.Create(path, mode, []byte(data)), m.create(path, vfs.Info{Kind: api.File, Mode: mode}, data)
	case 2:
		got, wanted = f.Symlink(path, text), m.create(path, vfs.Info{Kind: api.Symlink, Mode: 511, Target: text}, "")
	case 3:
		got, wanted = f.Mknod(path, mode), m.create(path, vfs.Info{Kind: api.Device, Mode: mode}, "")
	case 4:
		got, wanted = f.Link(path, other), m.link(path, other)
	case 5:
		got, wanted = f.Chown(path, mode, mtime), api.ErrNotFound
		if file := m.find(path); file != nil {
			wanted = api.OK
			file.info.Uid, file.info.Mtime = mode, mtime
		}
	}
	if got != wanted {
		t.Errorf("call %d with %q, %q, %d, %q: %v, want %v", kind, cut(path), cut(other), mode, cut(text), got, wanted)
	}
	return kind, got
}

// P19.2 to P19.5: random calls have the results of the model.
func TestRandomCalls(t *testing.T) {
	random := rand.New(rand.NewSource(19))
	seen := map[string]int{}
	for range 1000 {
		o := vfs.Options{First: 1 + random.Intn(maxNumber), Step: 1 + random.Intn(maxNumber)}
		for range random.Intn(5) {
			o.Rotate = append(o.Rotate, random.Intn(10))
		}
		f, m := made(t, o), newModel(o)
		for range 60 {
			kind, err := randomCall(t, random, f, m)
			seen[fmt.Sprint(kind, " ", err)]++
			if random.Intn(8) == 0 {
				wantSame(t, f, m)
			}
			if t.Failed() {
				return
			}
		}
		wantSame(t, f, m)
	}
	common := []api.Errno{api.OK, api.ErrSyntax, api.ErrTooLong, api.ErrParent, api.ErrDuplicate}
	for kind, errs := range [][]api.Errno{append(common, api.ErrMode), append(common, api.ErrMode), common, append(common, api.ErrMode), append(common, api.ErrNotFound, api.ErrLink), {api.OK, api.ErrNotFound}} {
		for _, err := range errs {
			if n := seen[fmt.Sprint(kind, " ", err)]; n < 10 {
				t.Errorf("only %d calls of kind %d with %v", n, kind, err)
			}
		}
	}
}

// Rule 7: the results of equal calls are equal.
func TestDeterministic(t *testing.T) {
	o := vfs.Options{First: 3, Step: 2}
	first := ""
	for i := range 20 {
		f, m := made(t, o), newModel(o)
		random := rand.New(rand.NewSource(7))
		for range 100 {
			randomCall(t, random, f, m)
		}
		text := dump(t, f)
		if i == 0 {
			first = text
		}
		if text != first {
			t.Fatalf("%s\ndiffers from\n%s", cut(text), cut(first))
		}
	}
}

// P1: many files in one directory, many directories, and one in another as deep as a path permits.
func TestManyFiles(t *testing.T) {
	const n = 20000
	f := made(t, vfs.Options{First: 1, Step: 1, Rotate: []int{1}})
	want(t, f.Create("f", 0, bytes.Repeat([]byte("a"), 1000)), api.OK)
	want(t, f.Mkdir("links", 0), api.OK)
	for i := range n {
		name := strconv.Itoa(n + i)
		want(t, f.Link("links/"+name, "f"), api.OK)
		want(t, f.Mkdir(name, 0), api.OK)
		want(t, f.Create(name+"/f", 0, nil), api.OK)
		wantNames(t, f, name, "f")
	}
	wantInfo(t, f, "f", vfs.Info{Kind: api.File, Inode: 2, Links: n + 1, Size: 1000})
	for path, length := range map[string]int{"links": n, "": n + 2} {
		l, err := f.List(path)
		if len(l) != length || err != api.OK {
			t.Errorf("%d names, %v", len(l), err)
		}
	}
	path := "deep"
	for len(path) <= maxPath {
		want(t, f.Mkdir(path, 0), api.OK)
		path += "/" + x(60)
	}
	want(t, f.Mkdir(path, 0), api.ErrTooLong)
	wantNames(t, f, path[:len(path)-2*61], x(60))
	wantNames(t, f, path[:len(path)-61])
}

// P1: no call panics, whatever its arguments.
func TestNoPanic(t *testing.T) {
	odd := []string{"", "/", "//", ".", "..", "a", "a/", "/a", "a/a", "a//a", "\x00", "\xff", " ", x(maxPath), x(maxPath + 1), strings.Repeat("/", maxPath), strings.Repeat("a/", 40000)}
	numbers := []int{math.MinInt, -1, 0, 1, maxMode, maxMode + 1, math.MaxInt}
	for _, o := range []vfs.Options{plain, {First: 1, Step: 1, Rotate: []int{math.MaxInt, 0, 1}}} {
		f := made(t, o)
		for _, p := range odd {
			for _, q := range odd {
				f.Link(p, q)
				f.Symlink(q, p)
			}
			for _, n := range numbers {
				f.Mkdir(p, n)
				f.Create(p+"/a", n, nil)
				f.Mknod(p, n)
				f.Chown(p, n, int64(n))
			}
			f.Lstat(p)
			f.ReadFile(p)
			f.List(p)
		}
	}
}
