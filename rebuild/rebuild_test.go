package rebuild_test

import (
	"fmt"
	"math"
	"math/rand"
	"slices"
	"strconv"
	"strings"
	"sync"
	"testing"

	"paxtar/api"
	"paxtar/fit"
	"paxtar/flatten"
	"paxtar/rebuild"
	"paxtar/tree"
)

const maxSize = 1099511627776

// x returns a string of n bytes without a slash.
func x(n int) string { return strings.Repeat("x", n) }

func dir(path string, mode int) api.Member {
	return api.Member{Entry: api.Entry{Kind: api.Dir, Path: path, Mode: mode}}
}

func file(path string, mode int, data string) api.Member {
	return api.Member{Entry: api.Entry{Kind: api.File, Path: path, Mode: mode, Size: int64(len(data))}, Data: []byte(data)}
}

func symlink(path, target string) api.Member {
	return api.Member{Entry: api.Entry{Kind: api.Symlink, Path: path, Target: target}}
}

func link(path string, mode int, target string) api.Member {
	return api.Member{Entry: api.Entry{Kind: api.Hardlink, Path: path, Mode: mode, Target: target}}
}

func dirNode(path string, mode int) api.Node {
	return api.Node{Kind: api.Dir, Path: path, Mode: mode}
}

func fileNode(path string, mode, class int, data string) api.Node {
	return api.Node{Kind: api.File, Path: path, Mode: mode, Data: []byte(data), Class: class}
}

func symlinkNode(path, target string) api.Node {
	return api.Node{Kind: api.Symlink, Path: path, Target: target}
}

// text shows a node or a member completely, and nil and empty data alike.
func text(v any) string {
	switch v := v.(type) {
	case api.Node:
		return fmt.Sprintf("%d %q %d %q %q %d", v.Kind, v.Path, v.Mode, v.Target, v.Data, v.Class)
	case api.Member:
		return fmt.Sprintf("%d %q %d %q %d %q", v.Entry.Kind, v.Entry.Path, v.Entry.Mode, v.Entry.Target, v.Entry.Size, v.Data)
	}
	panic(v)
}

func texts[T api.Node | api.Member](l []T) []string {
	var s []string
	for _, v := range l {
		s = append(s, text(v))
	}
	return s
}

func cut(s string) string {
	if len(s) > 600 {
		s = s[:600] + "…"
	}
	return s
}

func short[T api.Node | api.Member](l []T) string { return cut(fmt.Sprint(texts(l))) }

// built returns a builder to which the members have been added.
func built(t *testing.T, l ...api.Member) *rebuild.Builder {
	t.Helper()
	b := rebuild.New()
	for _, m := range l {
		wantAdd(t, b, m, api.OK)
	}
	return b
}

func wantNodes(t *testing.T, b *rebuild.Builder, want ...api.Node) {
	t.Helper()
	if got := b.Nodes(); !slices.Equal(texts(got), texts(want)) {
		t.Errorf("Nodes() = %s, want %s", short(got), short(want))
	}
}

func wantCheck(t *testing.T, b *rebuild.Builder, e api.Entry, want api.Errno) {
	t.Helper()
	if err := b.Check(e); err != want {
		t.Errorf("Check(%s) = %v, want %v", cut(text(api.Member{Entry: e})), err, want)
	}
}

func wantAdd(t *testing.T, b *rebuild.Builder, m api.Member, want api.Errno) {
	t.Helper()
	before := text(m)
	if err := b.Add(m); err != want {
		t.Errorf("Add(%s) = %v, want %v", cut(before), err, want)
	}
	if text(m) != before {
		t.Errorf("Add has changed %s", cut(before))
	}
}

// wantRejected checks that neither Check nor Add accepts a member, and that neither of them changes the nodes.
func wantRejected(t *testing.T, b *rebuild.Builder, m api.Member, want api.Errno) {
	t.Helper()
	before := texts(b.Nodes())
	wantCheck(t, b, m.Entry, want)
	wantAdd(t, b, m, want)
	if after := texts(b.Nodes()); !slices.Equal(after, before) {
		t.Errorf("Add(%s) has changed the nodes to %s", cut(text(m)), cut(fmt.Sprint(after)))
	}
}

// wantAccepted adds a member that is to become a node.
func wantAccepted(t *testing.T, b *rebuild.Builder, m api.Member) {
	t.Helper()
	before := len(b.Nodes())
	wantCheck(t, b, m.Entry, api.OK)
	wantAdd(t, b, m, api.OK)
	if l := b.Nodes(); len(l) != before+1 || l[before].Path != m.Entry.Path {
		t.Errorf("after Add(%s), there are the nodes %s", cut(text(m)), short(l))
	}
}

// The examples of the chapter, and of DOC.md for this layer.
func TestExamples(t *testing.T) {
	b := built(t, dir("a", 1))
	wantAccepted(t, b, file("a/b", 1, "data"))
	wantRejected(t, b, file("c/d", 1, "data"), api.ErrParent)
	wantRejected(t, b, file("A", 1, "data"), api.ErrOrder)
	wantNodes(t, b, dirNode("a", 1), fileNode("a/b", 1, 0, "data"))
	// A file that precedes its directory, and a directory after its file.
	wantRejected(t, rebuild.New(), file("a/b", 1, ""), api.ErrParent)
	wantRejected(t, built(t, file("b", 1, "")), dir("a", 1), api.ErrOrder)
	b = built(t, file("a", 1, "x"))
	wantAccepted(t, b, link("b", 1, "a"))
	wantNodes(t, b, fileNode("a", 1, 1, "x"), fileNode("b", 1, 1, "x"))
}

// A nil builder has no nodes, and its error precedes all others.
func TestNilBuilder(t *testing.T) {
	var b *rebuild.Builder
	for _, m := range []api.Member{dir("a", 1), file("a", 1, "x"), symlink("a", "b"), link("a", 1, "b"), dir("/", -1), {Entry: api.Entry{Kind: 9}}, {Data: []byte("x")}, {}} {
		wantRejected(t, b, m, api.ErrNil)
	}
	wantNodes(t, b)
}

// invalidEntries are rejected by fit.Check, and most of them for other reasons as well.
var invalidEntries = []struct {
	e   api.Entry
	err api.Errno
}{
	{api.Entry{Kind: -1, Path: "k"}, api.ErrKind}, {api.Entry{Kind: api.Device, Path: "/"}, api.ErrKind}, {api.Entry{Kind: 9, Path: "a"}, api.ErrKind}, {api.Entry{Kind: math.MinInt, Size: math.MinInt64}, api.ErrKind}, {api.Entry{Kind: math.MaxInt, Path: "no/k"}, api.ErrKind},
	{api.Entry{}, api.ErrSyntax}, {api.Entry{Path: "/"}, api.ErrSyntax}, {api.Entry{Path: "a//b", Mode: -1}, api.ErrSyntax}, {api.Entry{Path: "d/"}, api.ErrSyntax}, {api.Entry{Path: "/k"}, api.ErrSyntax}, {api.Entry{Path: "d/../k"}, api.ErrSyntax}, {api.Entry{Path: "a\x00"}, api.ErrSyntax},
	{api.Entry{Path: x(65537)}, api.ErrTooLong}, {api.Entry{Kind: api.Hardlink, Path: strings.Repeat("/", 65537)}, api.ErrTooLong},
	{api.Entry{Path: "k", Mode: -1}, api.ErrMode}, {api.Entry{Path: "a", Mode: 4096, Target: "t"}, api.ErrMode}, {api.Entry{Kind: api.Symlink, Path: "no/k", Mode: 1, Target: "t"}, api.ErrMode}, {api.Entry{Kind: api.Hardlink, Path: "k", Mode: 4096}, api.ErrMode},
	{api.Entry{Path: "k", Target: "t"}, api.ErrArg}, {api.Entry{Kind: api.File, Path: "a", Target: "t", Size: -1}, api.ErrArg},
	{api.Entry{Kind: api.Symlink, Path: "k"}, api.ErrSyntax}, {api.Entry{Kind: api.Symlink, Path: "a", Target: "\x00"}, api.ErrSyntax}, {api.Entry{Kind: api.Symlink, Path: "no/k", Target: x(65537)}, api.ErrTooLong},
	{api.Entry{Kind: api.Hardlink, Path: "k"}, api.ErrSyntax}, {api.Entry{Kind: api.Hardlink, Path: "a", Target: "/"}, api.ErrSyntax}, {api.Entry{Kind: api.Hardlink, Path: "no/k", Target: x(65537), Size: 1}, api.ErrTooLong},
	{api.Entry{Kind: api.File, Path: "k", Size: -1}, api.ErrRange}, {api.Entry{Kind: api.File, Path: "a", Size: maxSize + 1}, api.ErrRange}, {api.Entry{Kind: api.File, Path: "no/k", Size: math.MaxInt64}, api.ErrRange}, {api.Entry{Kind: api.File, Path: "k", Size: math.MinInt64}, api.ErrRange},
	{api.Entry{Path: "k", Size: 1}, api.ErrArg}, {api.Entry{Kind: api.Symlink, Path: "a", Target: "t", Size: -1}, api.ErrArg}, {api.Entry{Kind: api.Hardlink, Path: "no/k", Target: "f", Size: 512}, api.ErrArg},
}

// P15.1: the error of fit.Check precedes all others.
func TestInvalidEntries(t *testing.T) {
	b := built(t, dir("d", 1), file("f", 0, "x"))
	for _, c := range invalidEntries {
		if err := fit.Check(c.e); err != c.err {
			t.Fatal(c, err)
		}
		for _, data := range []string{"", "x", x(512)} {
			wantRejected(t, b, api.Member{Entry: c.e, Data: []byte(data)}, c.err)
			wantRejected(t, rebuild.New(), api.Member{Entry: c.e, Data: []byte(data)}, c.err)
		}
	}
	wantNodes(t, b, dirNode("d", 1), fileNode("f", 0, 0, "x"))
}

// ofEachKind returns members that are accepted after the directory A and the file B, but for their path.
func ofEachKind(path string) []api.Member {
	return []api.Member{dir(path, 7), file(path, 7, "data"), symlink(path, "no/t"), link(path, 6, "B")}
}

// P15.1: the paths ascend bytewise, whatever their components are.
func TestOrder(t *testing.T) {
	// The parent of each path is empty or the directory a.
	paths := []string{"a ", "a-", "a.", "a.b", "a/\x01", "a/b", "a/b.c", "a/\xff", "a0", "aa", "b", "b\x01", "z", "\x7f", "\x80", "é", "\xff", "\xff\xff"}
	for i, last := range paths {
		for j, path := range paths {
			for _, m := range ofEachKind(path) {
				b := built(t, dir("A", 1), file("B", 6, "x"), dir("a", 2), symlink(last, "t"))
				if j <= i {
					wantRejected(t, b, m, api.ErrOrder)
				} else {
					wantAccepted(t, b, m)
				}
			}
		}
		for _, m := range append(ofEachKind("a"), ofEachKind("A")...) {
			wantRejected(t, built(t, dir("A", 1), file("B", 6, "x"), dir("a", 2), symlink(last, "t")), m, api.ErrOrder)
		}
	}
}

// P15.1: the first member may have any path, also the least and the greatest ones.
func TestFirstMember(t *testing.T) {
	for _, path := range []string{"\x01", " ", "a", "\xff", x(65536), "..."} {
		for _, m := range []api.Member{dir(path, 4095), file(path, 0, ""), symlink(path, path)} {
			b := rebuild.New()
			wantAccepted(t, b, m)
			wantRejected(t, b, m, api.ErrOrder)
		}
		wantRejected(t, rebuild.New(), link(path, 1, "\x01"), api.ErrLink)
		wantRejected(t, rebuild.New(), link(path, 1, path), api.ErrLink)
	}
}

// P15.1: the order counts from the last member that was added, not from one that was rejected or only checked.
func TestOrderAfterErrors(t *testing.T) {
	b := built(t, dir("c", 1))
	wantRejected(t, b, file("z/z", 1, ""), api.ErrParent)
	wantRejected(t, b, link("y", 1, "c"), api.ErrLink)
	wantAdd(t, b, api.Member{Entry: api.Entry{Kind: api.File, Path: "x", Size: 1}}, api.ErrArg)
	wantCheck(t, b, file("w", 1, "").Entry, api.OK)
	wantRejected(t, b, file("b", 1, ""), api.ErrOrder)
	wantRejected(t, b, dir("c", 1), api.ErrOrder)
	wantAccepted(t, b, file("d", 1, ""))
	wantRejected(t, b, file("c/a", 1, ""), api.ErrOrder)
	wantNodes(t, b, dirNode("c", 1), fileNode("d", 1, 0, ""))
}

// P15.1: the parent is a directory, not another kind of member.
func TestParents(t *testing.T) {
	for _, p := range ofEachKind("p") {
		for _, m := range ofEachKind("p/k") {
			b := built(t, dir("A", 1), file("B", 6, "x"), p)
			if p.Entry.Kind == api.Dir {
				wantAccepted(t, b, m)
			} else {
				wantRejected(t, b, m, api.ErrParent)
			}
		}
		// The directory p is not the parent of p/k/k.
		for _, m := range ofEachKind("p/k/k") {
			wantRejected(t, built(t, dir("A", 1), file("B", 6, "x"), p), m, api.ErrParent)
		}
	}
	long := x(100) + "/" + x(200)
	base := []api.Member{dir("A", 1), file("B", 6, "x"), dir("d", 0), file("d ", 1, ""), symlink("d-", "t"), dir("d.", 1), file("d./f", 1, "")}
	// Other members may be between a directory and what it contains.
	for _, m := range ofEachKind("d/k") {
		wantAccepted(t, built(t, base...), m)
	}
	for _, m := range ofEachKind(long + "/k") {
		wantAccepted(t, built(t, append(base, dir(x(100), 1), dir(long, 1))...), m)
		wantRejected(t, built(t, append(base, dir(x(100), 1))...), m, api.ErrParent)
	}
	// A part of the path of a directory, or of its components, does not suffice.
	for _, path := range []string{"d0/k", "dd/k", "d/d/k", "d/d./k", "d/f/k", "e/d/k", "e/k", "f/k", "\xff/k", "\xff/d/k", long + "/k"} {
		for _, m := range ofEachKind(path) {
			wantRejected(t, built(t, base...), m, api.ErrParent)
		}
	}
	// A directory that has only been checked, or that was rejected, is none.
	b := built(t, base...)
	wantCheck(t, b, dir("d/d", 1).Entry, api.OK)
	wantAdd(t, b, api.Member{Entry: dir("d/d", 1).Entry, Data: []byte("x")}, api.ErrArg)
	for _, m := range ofEachKind("d/d/k") {
		wantRejected(t, b, m, api.ErrParent)
	}
	wantAccepted(t, b, dir("d/d", 1))
	wantAccepted(t, b, file("d/d/k", 1, ""))
}

// P15.1: the target of a hard link is a member of kind File with the same mode.
func TestLinks(t *testing.T) {
	b := built(t, dir("d", 6), file("d/f", 5, "1"), file("e", 6, "2"), link("h", 6, "e"), symlink("s", "e"), file("t", 0, ""))
	for _, c := range []struct {
		target string
		mode   int
		err    api.Errno
	}{
		{"e", 6, api.OK}, {"d/f", 5, api.OK}, {"t", 0, api.OK},
		{"e", 5, api.ErrLink}, {"e", 0, api.ErrLink}, {"e", 7, api.ErrLink}, {"e", 4095, api.ErrLink}, {"d/f", 6, api.ErrLink}, {"t", 6, api.ErrLink}, {"t", 1, api.ErrLink},
		// Neither a directory nor a hard link or a symbolic link, whatever its mode and target are.
		{"d", 6, api.ErrLink}, {"h", 6, api.ErrLink}, {"s", 0, api.ErrLink}, {"s", 6, api.ErrLink},
		// Neither an unknown path nor the member itself.
		{"f", 5, api.ErrLink}, {"d/e", 6, api.ErrLink}, {"d/h", 6, api.ErrLink}, {"E", 6, api.ErrLink}, {"ee", 6, api.ErrLink}, {"e/e", 6, api.ErrLink}, {"u", 6, api.ErrLink}, {"v", 0, api.ErrLink}, {"v", 6, api.ErrLink}, {x(65536), 6, api.ErrLink},
	} {
		wantCheck(t, b, link("v", c.mode, c.target).Entry, c.err)
		if c.err != api.OK {
			wantRejected(t, b, link("v", c.mode, c.target), c.err)
		}
	}
	// A file that has only been checked, or that was rejected, is no target.
	wantCheck(t, b, file("u", 6, "").Entry, api.OK)
	wantAdd(t, b, api.Member{Entry: file("u", 6, "").Entry, Data: []byte("x")}, api.ErrArg)
	wantRejected(t, b, link("v", 6, "u"), api.ErrLink)
	wantRejected(t, b, file("e", 7, ""), api.ErrOrder)
	wantRejected(t, b, link("v", 7, "e"), api.ErrLink)
	// Nor does a symbolic link need an existing target.
	wantAccepted(t, b, symlink("u", "v"))
	for i, target := range []string{"e", "d/f", "t", "e", "e"} {
		wantAccepted(t, b, link("v"+strconv.Itoa(i), []int{6, 5, 0, 6, 6}[i], target))
	}
}

// P15.1: the order counts before the parent, and the parent before the link.
func TestFirstError(t *testing.T) {
	b := built(t, file("e", 1, "x"), dir("m", 1))
	for _, path := range []string{"a/b", "d/d/d", "m", "e", "e/k", "M"} {
		for _, m := range append(ofEachKind(path), link(path, 2, "e"), link(path, 1, "e"), link(path, 1, path)) {
			wantRejected(t, b, m, api.ErrOrder)
		}
	}
	for _, path := range []string{"n/k", "m/k/k", "z/z/z"} {
		for _, m := range append(ofEachKind(path), link(path, 2, "e"), link(path, 1, "e"), link(path, 1, path)) {
			wantRejected(t, b, m, api.ErrParent)
			// The length of the data counts last.
			m.Data = []byte("other data")
			wantRejected(t, b, m, api.ErrParent)
		}
	}
	for _, m := range []api.Member{link("n", 2, "e"), link("n", 1, "m"), link("n", 1, "n")} {
		wantRejected(t, b, m, api.ErrLink)
		m.Data = []byte("x")
		wantRejected(t, b, m, api.ErrLink)
	}
	wantNodes(t, b, fileNode("e", 1, 0, "x"), dirNode("m", 1))
}

// P15.1: Check does not change the builder.
func TestCheckOnly(t *testing.T) {
	b := built(t, dir("d", 1), file("d/f", 1, "x"))
	for range 3 {
		for _, m := range []api.Member{dir("z", 1), file("y", 1, "data"), symlink("x", "t"), link("w", 1, "d/f"), dir("d/g", 1)} {
			wantCheck(t, b, m.Entry, api.OK)
			wantCheck(t, b, m.Entry, api.OK)
		}
		wantCheck(t, b, file("z/k", 1, "").Entry, api.ErrParent)
		wantCheck(t, b, link("z", 1, "y").Entry, api.ErrLink)
		wantCheck(t, b, file("d", 1, "").Entry, api.ErrOrder)
		wantNodes(t, b, dirNode("d", 1), fileNode("d/f", 1, 0, "x"))
	}
	// The size of an entry may be any valid one.
	for _, size := range []int64{0, 1, 1 << 31, 1 << 32, 8589934592, maxSize} {
		wantCheck(t, b, api.Entry{Kind: api.File, Path: "f", Size: size}, api.OK)
	}
}

// P15.2: the length of the data is the size of the entry, which is 0 but for regular files.
func TestDataLength(t *testing.T) {
	for _, c := range []struct {
		m    api.Member
		size int
	}{
		{dir("k", 1), 0}, {symlink("k", "t"), 0}, {link("k", 1, "f"), 0},
		{file("k", 1, ""), 0}, {file("k", 1, "x"), 1}, {file("k", 1, x(511)), 511}, {file("k", 1, x(512)), 512}, {file("k", 1, x(513)), 513}, {file("k", 1, x(70000)), 70000},
	} {
		for _, n := range []int{0, 1, 2, 3, 511, 512, 513, 514, 1024, 69999, 70000, 70001} {
			b := built(t, file("f", 1, "xyz"))
			m := c.m
			m.Data = []byte(x(n))
			if n == c.size {
				wantAccepted(t, b, m)
				continue
			}
			wantCheck(t, b, m.Entry, api.OK)
			wantAdd(t, b, m, api.ErrArg)
			wantNodes(t, b, fileNode("f", 1, 0, "xyz"))
			// The member with the right data is still accepted.
			wantAccepted(t, b, c.m)
		}
	}
	// The size counts with all its bits.
	for _, size := range []int64{1 << 32, 1<<32 + 1, 8589934592, maxSize} {
		for _, data := range []string{"", "x"} {
			wantAdd(t, rebuild.New(), api.Member{Entry: api.Entry{Kind: api.File, Path: "k", Size: size}, Data: []byte(data)}, api.ErrArg)
		}
	}
	// Empty data may be nil or not.
	for _, data := range [][]byte{nil, {}, make([]byte, 0, 9)} {
		for _, m := range []api.Member{dir("k", 1), symlink("k", "t"), link("k", 1, "f"), file("k", 1, "")} {
			m.Data = data
			wantAccepted(t, built(t, file("f", 1, "xyz")), m)
		}
	}
}

// P15.2: a builder after errors is not different from one without them.
func TestErrorsHaveNoEffect(t *testing.T) {
	good := []api.Member{dir("d", 1), file("d/f", 2, "data"), dir("d/g", 3), link("d/g/h", 2, "d/f"), symlink("s", "t"), link("t", 2, "d/f")}
	bad := []api.Member{
		{Entry: api.Entry{Kind: api.Dir, Path: "z"}, Data: []byte("x")}, {Entry: api.Entry{Kind: api.File, Path: "z", Size: 2}, Data: []byte("x")}, {Entry: api.Entry{Kind: api.Symlink, Path: "z", Target: "t"}, Data: []byte("x")}, {Entry: api.Entry{Kind: api.Hardlink, Path: "z", Mode: 2, Target: "d/f"}, Data: []byte("data")},
		dir("z/z", 1), file("z/z", 1, ""), link("z/z", 2, "d/f"), link("z", 2, "d"), link("z", 3, "d/f"), link("z", 2, "z"), dir("A", 1), file("A", 1, "x"), symlink("A", "t"), dir("z", -1), file("z/", 1, ""),
	}
	plain, other := rebuild.New(), rebuild.New()
	for _, m := range good {
		wantAccepted(t, plain, m)
		wantAccepted(t, other, m)
		for _, e := range bad {
			if other.Add(e) == api.OK {
				t.Errorf("%s is accepted after %s", text(e), text(m))
			}
		}
		if a, b := texts(plain.Nodes()), texts(other.Nodes()); !slices.Equal(a, b) {
			t.Fatal(a, b)
		}
	}
	wantNodes(t, other, dirNode("d", 1), fileNode("d/f", 2, 1, "data"), dirNode("d/g", 3), fileNode("d/g/h", 2, 1, "data"), symlinkNode("s", "t"), fileNode("t", 2, 1, "data"))
}

// P15.3: each member is a node with the values of its kind.
func TestKinds(t *testing.T) {
	wantNodes(t, rebuild.New())
	for _, mode := range []int{0, 1, 0o644, 0o755, 4095} {
		wantNodes(t, built(t, dir("k", mode)), dirNode("k", mode))
		for _, data := range []string{"", "x", "\x00", x(511), x(512), x(513), strings.Repeat("\xff\x00", 5000)} {
			wantNodes(t, built(t, file("k", mode, data)), fileNode("k", mode, 0, data))
			wantNodes(t, built(t, file("k", mode, data), link("l", mode, "k")), fileNode("k", mode, 1, data), fileNode("l", mode, 1, data))
		}
	}
	for _, target := range []string{"t", "k", "/", "../..", "\xff", x(100), x(101), x(65536)} {
		wantNodes(t, built(t, symlink("k", target)), symlinkNode("k", target))
	}
	for _, path := range []string{"k", " ", "\xff", "...", "a\nb", x(100), x(101), x(65536)} {
		wantNodes(t, built(t, dir(path, 1)), dirNode(path, 1))
		wantNodes(t, built(t, file(path, 1, "d")), fileNode(path, 1, 0, "d"))
		wantNodes(t, built(t, symlink(path, "t")), symlinkNode(path, "t"))
		// The byte 1 is the least one of a path.
		wantNodes(t, built(t, file("\x01", 1, "d"), link(path, 1, "\x01")), fileNode("\x01", 1, 1, "d"), fileNode(path, 1, 1, "d"))
		wantNodes(t, built(t, file(path, 1, "d"), link("\xff\xff", 1, path)), fileNode(path, 1, 1, "d"), fileNode("\xff\xff", 1, 1, "d"))
	}
}

// P15.3: hard links belong to the class of their file; the classes are numbered by their first files, and files without links have none.
func TestClasses(t *testing.T) {
	b := built(t, file("a", 1, "data"), file("b", 1, "data"), file("c", 2, ""), dir("d", 1), link("d/a", 2, "c"), link("d/b", 1, "b"), file("e", 1, "data"), link("f", 1, "b"), symlink("g", "a"), file("h", 3, "other"), link("i", 3, "h"), link("j", 2, "c"))
	wantNodes(t, b, fileNode("a", 1, 0, "data"), fileNode("b", 1, 1, "data"), fileNode("c", 2, 2, ""), dirNode("d", 1), fileNode("d/a", 2, 2, ""), fileNode("d/b", 1, 1, "data"), fileNode("e", 1, 0, "data"), fileNode("f", 1, 1, "data"), symlinkNode("g", "a"), fileNode("h", 3, 3, "other"), fileNode("i", 3, 3, "other"), fileNode("j", 2, 2, ""))
	// A further link changes the classes of all later files.
	wantAdd(t, b, link("k", 1, "a"), api.OK)
	wantNodes(t, b, fileNode("a", 1, 1, "data"), fileNode("b", 1, 2, "data"), fileNode("c", 2, 3, ""), dirNode("d", 1), fileNode("d/a", 2, 3, ""), fileNode("d/b", 1, 2, "data"), fileNode("e", 1, 0, "data"), fileNode("f", 1, 2, "data"), symlinkNode("g", "a"), fileNode("h", 3, 4, "other"), fileNode("i", 3, 4, "other"), fileNode("j", 2, 3, ""), fileNode("k", 1, 1, "data"))
	// Neither equal data nor the target of a symbolic link make a class.
	wantNodes(t, built(t, file("a", 1, "x"), symlink("b", "a"), file("c", 1, "x")), fileNode("a", 1, 0, "x"), symlinkNode("b", "a"), fileNode("c", 1, 0, "x"))
}

// P15.3: the nodes can be had after each member, and that does not change the builder.
func TestNodesInBetween(t *testing.T) {
	b := rebuild.New()
	var want []api.Node
	for range 2 {
		wantNodes(t, b)
	}
	for i := range 300 {
		path := fmt.Sprintf("f%03d", i)
		if i%3 == 2 {
			last := &want[len(want)-1]
			wantAdd(t, b, link(path, 1, last.Path), api.OK)
			last.Class = i/3 + 1
			want = append(want, fileNode(path, 1, last.Class, string(last.Data)))
		} else {
			wantAdd(t, b, file(path, 1, path), api.OK)
			want = append(want, fileNode(path, 1, 0, path))
		}
		for range 2 {
			wantNodes(t, b, want...)
		}
	}
}

// P15.3, rule 4: the nodes are new memory, and none of them share it.
func TestNewMemory(t *testing.T) {
	b := built(t, file("a", 1, "data of both"), link("b", 1, "a"), file("c", 1, ""), file("d", 1, "more data"), link("e", 1, "a"))
	want := texts(b.Nodes())
	first, second := b.Nodes(), b.Nodes()
	for i := range first {
		// Bytes beyond the length might be those of another slice.
		data := first[i].Data[:cap(first[i].Data)]
		for j := range data {
			data[j] = '!'
		}
		if !slices.Equal(texts(second), want) || !slices.Equal(texts(first[i+1:]), want[i+1:]) || !slices.Equal(texts(b.Nodes()), want) {
			t.Fatalf("the data of the node %d share memory", i)
		}
		first[i] = api.Node{}
		if !slices.Equal(texts(second), want) || !slices.Equal(texts(b.Nodes()), want) {
			t.Fatalf("the list shares memory")
		}
	}
	// Nor does a list have room that a later call uses.
	short := append(b.Nodes(), dirNode("x", 1))
	wantAdd(t, b, dir("z", 1), api.OK)
	if short[5].Path != "x" || !slices.Equal(texts(b.Nodes()), append(want, text(dirNode("z", 1)))) {
		t.Error(texts(short))
	}
	if !slices.Equal(texts(second), want) {
		t.Error("a later member has changed an earlier result")
	}
}

// P15.2, rule 4: the data of a member may change after the call, and those beyond their length do not count.
func TestRetainedData(t *testing.T) {
	buffer := []byte("0123456789")
	b := rebuild.New()
	for i, path := range []string{"a", "b", "c"} {
		copy(buffer, strings.Repeat(path, 10))
		m := api.Member{Entry: api.Entry{Kind: api.File, Path: path, Size: int64(3 * i)}, Data: buffer[:3*i]}
		wantAdd(t, b, m, api.OK)
	}
	wantAdd(t, b, link("d", 0, "b"), api.OK)
	b.Nodes()
	for i := range buffer {
		buffer[i] = '!'
	}
	wantAdd(t, b, link("e", 0, "c"), api.OK)
	wantNodes(t, b, fileNode("a", 0, 0, ""), fileNode("b", 0, 1, "bbb"), fileNode("c", 0, 2, "cccccc"), fileNode("d", 0, 1, "bbb"), fileNode("e", 0, 2, "cccccc"))
	if string(buffer) != "!!!!!!!!!!" {
		t.Errorf("the memory of an argument has become %q", buffer)
	}
}

// model is P15.1 to P15.3, with the list of the added members as its only state.
type model []api.Member

// find returns the first member of this kind with this path.
func (l model) find(kind int, path string) (api.Member, bool) {
	for _, m := range l {
		if m.Entry.Kind == kind && m.Entry.Path == path {
			return m, true
		}
	}
	return api.Member{}, false
}

func (l model) check(e api.Entry) api.Errno {
	if err := fit.Check(e); err != api.OK {
		return err
	}
	if len(l) > 0 && e.Path <= l[len(l)-1].Entry.Path {
		return api.ErrOrder
	}
	if i := strings.LastIndex(e.Path, "/"); i >= 0 {
		if _, ok := l.find(api.Dir, e.Path[:i]); !ok {
			return api.ErrParent
		}
	}
	if e.Kind == api.Hardlink {
		if f, ok := l.find(api.File, e.Target); !ok || f.Entry.Mode != e.Mode {
			return api.ErrLink
		}
	}
	return api.OK
}

func (l model) add(m api.Member) (model, api.Errno) {
	if err := l.check(m.Entry); err != api.OK {
		return l, err
	}
	if int64(len(m.Data)) != m.Entry.Size {
		return l, api.ErrArg
	}
	return append(l, m), api.OK
}

// nodes numbers the files that have hard links, in their order.
func (l model) nodes() []api.Node {
	classes := map[string]int{}
	for _, m := range l {
		links := slices.ContainsFunc(l, func(h api.Member) bool {
			return h.Entry.Kind == api.Hardlink && h.Entry.Target == m.Entry.Path
		})
		if m.Entry.Kind == api.File && links {
			classes[m.Entry.Path] = len(classes) + 1
		}
	}
	var result []api.Node
	for _, m := range l {
		e := m.Entry
		switch e.Kind {
		case api.Dir:
			result = append(result, dirNode(e.Path, e.Mode))
		case api.Symlink:
			result = append(result, symlinkNode(e.Path, e.Target))
		case api.File:
			result = append(result, fileNode(e.Path, e.Mode, classes[e.Path], string(m.Data)))
		case api.Hardlink:
			f, _ := l.find(api.File, e.Target)
			result = append(result, fileNode(e.Path, e.Mode, classes[e.Target], string(f.Data)))
		}
	}
	return result
}

// randomMember returns a member that often may follow those of a model, and as often may not.
func randomMember(random *rand.Rand, l model) api.Member {
	some := func() string {
		if len(l) == 0 || random.Intn(4) == 0 {
			return []string{"a", "b", "a/b", "a/b/c", "z"}[random.Intn(5)]
		}
		return l[random.Intn(len(l))].Entry.Path
	}
	path := some()
	if len(l) > 0 && random.Intn(2) == 0 {
		path = l[len(l)-1].Entry.Path
	}
	path += []string{"", "/a", "/b", "x", "/a.x", "/\xff", "\xff", "/"}[random.Intn(8)]
	data := x(random.Intn(3))
	m := api.Member{Entry: api.Entry{Kind: random.Intn(4), Path: path, Mode: random.Intn(2)}}
	switch m.Entry.Kind {
	case api.File:
		m.Data, m.Entry.Size = []byte(data), int64(len(data))
	case api.Symlink:
		m.Entry.Mode, m.Entry.Target = 0, some()
	case api.Hardlink:
		m.Entry.Target = some()
	}
	switch random.Intn(20) {
	case 0:
		m.Data = []byte(x(random.Intn(3)))
	case 1:
		m.Entry.Kind = random.Intn(6) - 1
	case 2:
		m.Entry.Size = int64(random.Intn(4) - 1)
	case 3:
		m.Entry.Mode = []int{-1, 4095, 4096}[random.Intn(3)]
	}
	return m
}

// P15.1 to P15.4: random members against the model.
func TestAgainstTheChapter(t *testing.T) {
	random := rand.New(rand.NewSource(1))
	results := map[api.Errno]int{}
	kinds := map[int]int{}
	for range 10000 {
		b := rebuild.New()
		var l model
		for range random.Intn(40) {
			m := randomMember(random, l)
			wantCheck(t, b, m.Entry, l.check(m.Entry))
			var want api.Errno
			l, want = l.add(m)
			wantAdd(t, b, m, want)
			results[want]++
			if random.Intn(8) == 0 {
				wantNodes(t, b, l.nodes()...)
			}
		}
		for _, m := range l {
			kinds[m.Entry.Kind]++
		}
		wantNodes(t, b, l.nodes()...)
		wantMembers(t, b, l)
		if t.Failed() {
			return
		}
	}
	for _, e := range []api.Errno{api.OK, api.ErrArg, api.ErrSyntax, api.ErrKind, api.ErrMode, api.ErrRange, api.ErrOrder, api.ErrParent, api.ErrLink} {
		if results[e] < 200 {
			t.Errorf("only %d members with the result %v", results[e], e)
		}
	}
	for kind := range 4 {
		if kinds[kind] < 500 {
			t.Errorf("only %d members of kind %d", kinds[kind], kind)
		}
	}
}

// wantMembers checks the consequences for a builder with these members: a valid, canonical tree, of which they are the members.
func wantMembers(t *testing.T, b *rebuild.Builder, l []api.Member) {
	t.Helper()
	nodes := b.Nodes()
	if n, err := tree.Check(nodes); n != len(l) || err != api.OK {
		t.Errorf("the tree %s is not valid: %d, %v", short(nodes), n, err)
	}
	if c := tree.Canon(nodes); !slices.Equal(texts(c), texts(nodes)) {
		t.Errorf("the tree %s is not canonical", short(nodes))
	}
	if m, _, _ := flatten.Members(nodes); !slices.Equal(texts(m), texts(l)) {
		t.Errorf("the tree %s has the members %s, not %s", short(nodes), short(m), short(l))
	}
}

// randomTree returns a valid tree in a random order.
func randomTree(random *rand.Rand) []api.Node {
	var l []api.Node
	parents := []string{""}
	used := map[string]bool{}
	classes := []int{1, 2, 5, 1 << 40, math.MaxInt}
	for range random.Intn(30) {
		p := parents[random.Intn(len(parents))] + []string{"a", "b", "a.x", "A", "\xff", "0", x(60), x(101)}[random.Intn(8)]
		if used[p] {
			continue
		}
		used[p] = true
		switch random.Intn(4) {
		case 0:
			l = append(l, dirNode(p, random.Intn(4096)))
			parents = append(parents, p+"/")
		case 1:
			l = append(l, symlinkNode(p, strings.Repeat(p, 1+random.Intn(3))))
		case 2:
			l = append(l, fileNode(p, random.Intn(4096), 0, x(random.Intn(1100))))
		default:
			i := random.Intn(len(classes))
			l = append(l, fileNode(p, i, classes[i], x(i*300)))
		}
	}
	random.Shuffle(len(l), func(i, j int) { l[i], l[j] = l[j], l[i] })
	return l
}

// P15.4: the members of a valid tree are accepted in order, and their tree is its canonical form.
func TestMembersOfTrees(t *testing.T) {
	random := rand.New(rand.NewSource(2))
	for range 3000 {
		l := randomTree(random)
		members, _, err := flatten.Members(l)
		if err != api.OK {
			t.Fatal(short(l), err)
		}
		b := built(t, members...)
		wantNodes(t, b, tree.Canon(l)...)
		wantMembers(t, b, members)
		if t.Failed() {
			return
		}
	}
}

// P15.4: another list of members of the same paths is accepted only if it is the list of a tree.
func TestOtherMembers(t *testing.T) {
	random := rand.New(rand.NewSource(3))
	accepted, rejected := 0, 0
	for range 3000 {
		members, _, _ := flatten.Members(randomTree(random))
		if len(members) < 2 {
			continue
		}
		switch i, j := random.Intn(len(members)), random.Intn(len(members)); random.Intn(3) {
		case 0:
			members[i], members[j] = members[j], members[i]
		case 1:
			members = slices.Delete(members, i, i+1)
		case 2:
			members[i].Entry.Kind = random.Intn(4)
		}
		b := rebuild.New()
		failed := slices.ContainsFunc(members, func(m api.Member) bool { return b.Add(m) != api.OK })
		if failed {
			rejected++
			continue
		}
		accepted++
		wantMembers(t, b, members)
	}
	if accepted < 200 || rejected < 200 {
		t.Error(accepted, rejected)
	}
}

// P1: many members do not take time that grows with the square of their number.
func TestManyMembers(t *testing.T) {
	const n = 100000
	b := built(t, dir("d", 1), file("d/0", 1, "data"))
	for i := range n {
		path := "d/" + strconv.Itoa(n+i)
		switch i % 4 {
		case 0:
			wantAdd(t, b, dir(path, 1), api.OK)
		case 1:
			wantAdd(t, b, file(path, 1, "more"), api.OK)
		case 2:
			wantAdd(t, b, link(path, 1, "d/"+strconv.Itoa(n+i-1)), api.OK)
		case 3:
			wantAdd(t, b, link(path, 1, "d/0"), api.OK)
		}
	}
	nodes := b.Nodes()
	if len(nodes) != n+2 || nodes[1].Class != 1 || nodes[n+1].Class != 1 || nodes[n].Class != n/4+1 || nodes[n-1].Class != n/4+1 || string(nodes[n+1].Data) != "data" {
		t.Error(len(nodes), nodes[1], nodes[n-1], nodes[n], nodes[n+1])
	}
}

// P1: paths may be deep and long.
func TestDeepPaths(t *testing.T) {
	b := rebuild.New()
	path := "a"
	for len(path) < 6000 {
		wantAdd(t, b, dir(path, 1), api.OK)
		wantAdd(t, b, dir(path+"/a/a", 1), api.ErrParent)
		path += "/a"
	}
	if l := b.Nodes(); len(l) != 3000 {
		t.Error(len(l))
	}
}

// P1: no argument makes a function panic.
func TestNoPanic(t *testing.T) {
	ints := []int{math.MinInt, -1, 0, 1, 2, 3, 4, 4095, 4096, math.MaxInt}
	sizes := []int64{math.MinInt64, -1, 0, 1, 2, 512, maxSize, maxSize + 1, math.MaxInt64}
	strs := []string{"", "/", ".", "a", "b", "a/b", "a/b/c", "\x00", "\xff\xfe", x(65536), x(65537), strings.Repeat("a/", 40000)}
	random := rand.New(rand.NewSource(4))
	pick := func() int { return ints[random.Intn(len(ints))] }
	str := func() string { return strs[random.Intn(len(strs))] }
	for range 100 {
		b := rebuild.New()
		var l model
		for range 8 {
			m := api.Member{Entry: api.Entry{Kind: pick(), Path: str(), Mode: pick(), Target: str(), Size: sizes[random.Intn(len(sizes))]}, Data: []byte(str())}
			var want api.Errno
			l, want = l.add(m)
			wantAdd(t, b, m, want)
		}
		wantNodes(t, b, l.nodes()...)
	}
}

// P2: builders are independent of each other, also at the same time.
func TestIndependentBuilders(t *testing.T) {
	a, b := rebuild.New(), rebuild.New()
	wantAccepted(t, a, dir("d", 1))
	wantRejected(t, b, file("d/f", 1, ""), api.ErrParent)
	wantAccepted(t, b, file("c", 1, "x"))
	wantRejected(t, a, link("e", 1, "c"), api.ErrLink)
	wantAccepted(t, a, file("d/f", 1, "y"))
	wantNodes(t, a, dirNode("d", 1), fileNode("d/f", 1, 0, "y"))
	wantNodes(t, b, fileNode("c", 1, 0, "x"))
	shared, _, _ := flatten.Members(randomTree(rand.New(rand.NewSource(5))))
	var group sync.WaitGroup
	for seed := range 8 {
		group.Go(func() {
			random := rand.New(rand.NewSource(int64(seed)))
			for range 100 {
				l := randomTree(random)
				members, _, _ := flatten.Members(l)
				wantNodes(t, built(t, members...), tree.Canon(l)...)
				wantMembers(t, built(t, shared...), shared)
			}
		})
	}
	group.Wait()
}
