package tree_test

import (
	"bytes"
	"fmt"
	"math"
	"math/rand"
	"slices"
	"strconv"
	"strings"
	"sync"
	"testing"

	"paxtar/api"
	"paxtar/fit"
	"paxtar/tree"
)

// x returns a string of n bytes without a slash.
func x(n int) string { return strings.Repeat("x", n) }

func dir(path string) api.Node { return api.Node{Kind: api.Dir, Path: path, Mode: 0o755} }

func file(path string, class int, data string) api.Node {
	return api.Node{Kind: api.File, Path: path, Mode: 0o644, Data: []byte(data), Class: class}
}

func symlink(path, target string) api.Node {
	return api.Node{Kind: api.Symlink, Path: path, Target: target}
}

// with returns the node with the changes.
func with(n api.Node, change func(n *api.Node)) api.Node {
	change(&n)
	return n
}

func join(lists ...[]api.Node) []api.Node { return slices.Concat(lists...) }

// text shows a node completely, and nil and empty data alike.
func text(n api.Node) string {
	return fmt.Sprintf("%d %q %d %q %q %d", n.Kind, n.Path, n.Mode, n.Target, n.Data, n.Class)
}

func texts(l []api.Node) []string {
	var s []string
	for _, n := range l {
		s = append(s, text(n))
	}
	return s
}

func short(l []api.Node) string {
	s := fmt.Sprint(texts(l))
	if len(s) > 600 {
		s = s[:600] + "…"
	}
	return s
}

// deepCopy returns the list with nothing shared; it has no spare capacity.
func deepCopy(l []api.Node) []api.Node {
	c := make([]api.Node, len(l))
	for i, n := range l {
		n.Data = slices.Clip(bytes.Clone(n.Data))
		c[i] = n
	}
	return c
}

func wantCheck(t *testing.T, l []api.Node, n int, e api.Errno) {
	t.Helper()
	before := texts(l)
	if i, err := tree.Check(l); i != n || err != e {
		t.Errorf("Check(%s) = %d, %v, want %d, %v", short(l), i, err, n, e)
	}
	if !slices.Equal(texts(l), before) {
		t.Errorf("Check has changed %s", short(l))
	}
}

func wantCanon(t *testing.T, l, want []api.Node) {
	t.Helper()
	before := texts(l)
	if c := tree.Canon(l); !slices.Equal(texts(c), texts(want)) {
		t.Errorf("Canon(%s) = %s, want %s", short(l), short(c), short(want))
	}
	if !slices.Equal(texts(l), before) {
		t.Errorf("Canon has changed %s", short(l))
	}
}

func wantEqual(t *testing.T, a, b []api.Node, want bool) {
	t.Helper()
	before := join(deepCopy(a), deepCopy(b))
	if tree.Equal(a, b) != want || tree.Equal(b, a) != want {
		t.Errorf("Equal(%s, %s) is not %v", short(a), short(b), want)
	}
	if !slices.Equal(texts(join(a, b)), texts(before)) {
		t.Errorf("Equal has changed %s or %s", short(a), short(b))
	}
}

func wantFind(t *testing.T, l []api.Node, path string, want api.Node, found bool) {
	t.Helper()
	if n, ok := tree.Find(l, path); ok != found || text(n) != text(want) {
		t.Errorf("Find(%s, %q) = %s, %v, want %s, %v", short(l), path, text(n), ok, text(want), found)
	}
}

// isPath is the definition of layer 8 but for the length.
func isPath(p string) bool {
	for _, c := range strings.Split(p, "/") {
		if c == "" || c == "." || c == ".." {
			return false
		}
	}
	return !strings.Contains(p, "\x00")
}

// checkNode is P13.1 for one node: the conditions of the chapters 13 and 10 in their order.
func checkNode(n api.Node) api.Errno {
	isFile, isLink := n.Kind == 1, n.Kind == 2
	for _, c := range []struct {
		holds bool
		err   api.Errno
	}{
		{n.Kind < 0 || n.Kind > 2, api.ErrKind},
		{len(n.Path) > 65536, api.ErrTooLong},
		{!isPath(n.Path), api.ErrSyntax},
		{n.Mode < 0 || n.Mode > 4095 || isLink && n.Mode != 0, api.ErrMode},
		{!isLink && n.Target != "", api.ErrArg},
		{isLink && len(n.Target) > 65536, api.ErrTooLong},
		{isLink && (n.Target == "" || strings.Contains(n.Target, "\x00")), api.ErrSyntax},
		{!isFile && len(n.Data) > 0, api.ErrArg},
		{n.Class < 0, api.ErrLink},
		{!isFile && n.Class != 0, api.ErrLink},
	} {
		if c.holds {
			return c.err
		}
	}
	return api.OK
}

// parentOf is the path up to its last slash.
func parentOf(p string) string {
	c := strings.Split(p, "/")
	return strings.Join(c[:len(c)-1], "/")
}

// together is P13.2 for the node with the index i.
func together(l []api.Node, i int) api.Errno {
	n := l[i]
	samePath := func(m api.Node) bool { return m.Path == n.Path }
	if slices.ContainsFunc(l[:i], samePath) {
		return api.ErrDuplicate
	}
	parent := parentOf(n.Path)
	isParent := func(m api.Node) bool { return m.Kind == api.Dir && m.Path == parent }
	if parent != "" && !slices.ContainsFunc(l, isParent) {
		return api.ErrParent
	}
	if n.Class > 0 {
		sameClass := func(m api.Node) bool { return m.Class == n.Class }
		first := l[slices.IndexFunc(l, sameClass)]
		if first.Mode != n.Mode || string(first.Data) != string(n.Data) {
			return api.ErrLink
		}
	}
	return api.OK
}

func check(l []api.Node) (int, api.Errno) {
	for i, n := range l {
		if err := checkNode(n); err != api.OK {
			return i, err
		}
	}
	for i := range l {
		if err := together(l, i); err != api.OK {
			return i, err
		}
	}
	return len(l), api.OK
}

// canon is P13.3: each node is put behind all those that are not greater.
func canon(l []api.Node) []api.Node {
	var sorted []api.Node
	for _, n := range l {
		at := 0
		for at < len(sorted) && sorted[at].Path <= n.Path {
			at++
		}
		sorted = slices.Insert(sorted, at, n)
	}
	var classes []int
	result := deepCopy(sorted)
	for i, n := range sorted {
		result[i].Class = 0
		others := 0
		for j, m := range sorted {
			if j != i && m.Class == n.Class {
				others++
			}
		}
		if n.Class > 0 && others > 0 {
			if !slices.Contains(classes, n.Class) {
				classes = append(classes, n.Class)
			}
			result[i].Class = slices.Index(classes, n.Class) + 1
		}
	}
	return result
}

// The examples of the chapter, and of DOC.md for this layer.
func TestExamples(t *testing.T) {
	wantCheck(t, []api.Node{file("a/b", 0, "x"), dir("a")}, 2, api.OK)
	wantCheck(t, []api.Node{dir("a"), file("a/b", 0, "x")}, 2, api.OK)
	wantCheck(t, []api.Node{file("a/b", 0, "x")}, 0, api.ErrParent)
	wantCanon(t, []api.Node{file("b", 9, "x"), file("a", 9, "x")}, []api.Node{file("a", 1, "x"), file("b", 1, "x")})
	wantCheck(t, nil, 0, api.OK)
	wantCheck(t, []api.Node{}, 0, api.OK)
	wantCanon(t, nil, nil)
	wantCanon(t, []api.Node{}, nil)
	wantEqual(t, nil, []api.Node{}, true)
	wantFind(t, nil, "a", api.Node{}, false)
}

// validNodes are valid by themselves and, in this order, together.
var validNodes = []api.Node{
	dir("d"), file("d/x", 0, ""), symlink("s", "d/x"),
	with(dir("zero"), func(n *api.Node) { n.Mode = 0 }),
	with(dir("full"), func(n *api.Node) { n.Mode = 4095 }),
	with(file("f", 0, "data"), func(n *api.Node) { n.Mode = 4095 }),
	file("g", 1, "x"), file("h", math.MaxInt, strings.Repeat("y", 1000)), file("i", 1, "x"),
	file("\xff", 0, "\x00"), file(" ", 0, "\n"), file("...", 0, "/"), file(x(65536), 0, ""), file(x(255), 0, ""),
	symlink("up", "../.."), symlink("root", "/"), symlink("dangling", "//./"), symlink("long", x(65536)), symlink("self", "self"),
	with(symlink("nodata", "x"), func(n *api.Node) { n.Data = []byte{} }),
	with(dir("nodata2"), func(n *api.Node) { n.Data = []byte{} }),
	with(file("nildata", 0, ""), func(n *api.Node) { n.Data = nil }),
}

// An invalid node and its error.
type invalid struct {
	node api.Node
	err  api.Errno
}

func invalidNodes() []invalid {
	var l []invalid
	add := func(n api.Node, change func(n *api.Node), err api.Errno) {
		l = append(l, invalid{with(n, change), err})
	}
	for _, kind := range []int{-1, -2, 3, 4, 5, 6, 255, 256, 257, 1 << 32, 1<<32 + 1, math.MinInt, math.MaxInt, '0', '5'} {
		add(file("k", 0, ""), func(n *api.Node) { n.Kind = kind }, api.ErrKind)
	}
	// A hard link is a kind of entries, and would be valid as an entry.
	add(file("k", 0, ""), func(n *api.Node) { n.Kind, n.Target = api.Hardlink, "f" }, api.ErrKind)
	for _, n := range []api.Node{dir("k"), file("k", 0, "data"), symlink("k", "t")} {
		for _, p := range []string{"", "/", "/k", "k/", "a//b", ".", "..", "a/../b", "./k", "k\x00", x(65535) + "/"} {
			add(n, func(n *api.Node) { n.Path = p }, api.ErrSyntax)
		}
		add(n, func(n *api.Node) { n.Path = x(65537) }, api.ErrTooLong)
		add(n, func(n *api.Node) { n.Path = strings.Repeat("/", 65537) }, api.ErrTooLong)
		for _, mode := range []int{-1, 4096, 1 << 16, 1 << 32, math.MinInt, math.MaxInt} {
			add(n, func(n *api.Node) { n.Mode = mode }, api.ErrMode)
		}
		for _, class := range []int{-1, -2, math.MinInt, math.MinInt32} {
			add(n, func(n *api.Node) { n.Class = class }, api.ErrLink)
		}
	}
	for _, mode := range []int{1, 0o777, 4095} {
		add(symlink("k", "t"), func(n *api.Node) { n.Mode = mode }, api.ErrMode)
	}
	for _, n := range []api.Node{dir("k"), file("k", 0, "data")} {
		for _, target := range []string{"f", "/", "\x00", x(65537)} {
			add(n, func(n *api.Node) { n.Target = target }, api.ErrArg)
		}
	}
	add(symlink("k", ""), func(n *api.Node) {}, api.ErrSyntax)
	add(symlink("k", "a\x00"), func(n *api.Node) {}, api.ErrSyntax)
	add(symlink("k", x(65537)), func(n *api.Node) {}, api.ErrTooLong)
	for _, n := range []api.Node{dir("k"), symlink("k", "t")} {
		for _, data := range []string{"\x00", "x", "t", x(600)} {
			add(n, func(n *api.Node) { n.Data = []byte(data) }, api.ErrArg)
		}
		for _, class := range []int{1, 2, math.MaxInt} {
			add(n, func(n *api.Node) { n.Class = class }, api.ErrLink)
		}
	}
	return l
}

// P13.1: nodes are validated by themselves, and the index is that of the invalid node.
func TestCheckNode(t *testing.T) {
	wantCheck(t, validNodes, len(validNodes), api.OK)
	for i := range validNodes {
		if parentOf(validNodes[i].Path) == "" {
			wantCheck(t, validNodes[i:i+1], 1, api.OK)
		}
	}
	for _, c := range invalidNodes() {
		l := []api.Node{c.node}
		wantCheck(t, l, 0, c.err)
		wantCheck(t, join(l, validNodes), 0, c.err)
		wantCheck(t, join(validNodes, l), len(validNodes), c.err)
		wantCheck(t, join(validNodes[:7], l, validNodes[7:]), 7, c.err)
	}
}

// P13.1: of the errors of one node, the first one is returned.
func TestOrderOfErrorsOfNode(t *testing.T) {
	paths := []string{"k", "", "k/", x(65537), strings.Repeat("\x00", 65537)}
	modes := []int{0, 420, -1, 4096}
	targets := []string{"", "t", "\x00", x(65537), strings.Repeat("\x00", 65537)}
	datas := []string{"", "x"}
	classes := []int{0, 1, -1, math.MinInt}
	tried := map[api.Errno]int{}
	for kind := -1; kind <= 4; kind++ {
		for _, p := range paths {
			for _, m := range modes {
				for _, target := range targets {
					for _, d := range datas {
						for _, c := range classes {
							n := api.Node{Kind: kind, Path: p, Mode: m, Target: target, Data: []byte(d), Class: c}
							e := checkNode(n)
							tried[e]++
							if i, err := tree.Check([]api.Node{n}); err != e || i != 0 && e != api.OK || i != 1 && e == api.OK {
								t.Fatalf("Check of %.200s = %d, %v, want %v", text(n), i, err, e)
							}
						}
					}
				}
			}
		}
	}
	if len(tried) != 7 {
		t.Error(tried)
	}
}

// P13.1: the first invalid node counts, whatever the others are.
func TestFirstInvalidNode(t *testing.T) {
	bad := invalidNodes()
	random := rand.New(rand.NewSource(1))
	for range 2000 {
		a, b := bad[random.Intn(len(bad))], bad[random.Intn(len(bad))]
		wantCheck(t, []api.Node{file("f", 0, ""), a.node, b.node}, 1, a.err)
		wantCheck(t, []api.Node{a.node, file("f", 0, ""), b.node, dir("d")}, 0, a.err)
	}
}

// P13.1, P13.2: a node that is invalid by itself counts before all earlier ones that do not go together.
func TestNodesBeforeRelations(t *testing.T) {
	relations := [][]api.Node{
		{file("f", 0, ""), file("f", 0, "")},
		{file("no/f", 0, "")},
		{file("f", 1, "a"), file("g", 1, "b")},
	}
	for _, l := range relations {
		for _, c := range invalidNodes() {
			wantCheck(t, join(l, []api.Node{c.node}), len(l), c.err)
			wantCheck(t, join(l, []api.Node{dir("x"), c.node}, l), len(l)+1, c.err)
		}
	}
	// A node that is invalid by itself is no reason for another error of a later one.
	wantCheck(t, []api.Node{with(dir("d"), func(n *api.Node) { n.Mode = -1 }), file("d/f", 0, ""), dir("d")}, 0, api.ErrMode)
}

// P13.2: no two nodes have the same path.
func TestDuplicates(t *testing.T) {
	kinds := []api.Node{dir("p"), file("p", 0, "x"), file("p", 1, "x"), symlink("p", "t")}
	for _, a := range kinds {
		for _, b := range kinds {
			wantCheck(t, []api.Node{a, b}, 1, api.ErrDuplicate)
			wantCheck(t, []api.Node{dir("o"), a, file("q", 0, ""), b, b}, 3, api.ErrDuplicate)
			wantCheck(t, []api.Node{file("q", 0, ""), dir("o"), a, dir("o"), b}, 3, api.ErrDuplicate)
		}
	}
	// Only equal paths are duplicates.
	different := []api.Node{dir("a"), dir("A"), dir("a "), dir("a."), dir("aa"), dir("a\n"), dir("\xc3\xa1"), dir("a\xcc\x81"), dir("a/a"), dir("a/a/a")}
	wantCheck(t, different, len(different), api.OK)
	long := x(65535)
	wantCheck(t, []api.Node{file(long+"a", 0, ""), file(long+"b", 0, ""), file(long+"a", 0, "")}, 2, api.ErrDuplicate)
}

// P13.2: the parent of a node is a directory anywhere in the list.
func TestParents(t *testing.T) {
	for _, n := range []api.Node{dir("a/b"), file("a/b", 0, "x"), file("a/b", 1, "x"), symlink("a/b", "t")} {
		wantCheck(t, []api.Node{n}, 0, api.ErrParent)
		wantCheck(t, []api.Node{n, dir("a")}, 2, api.OK)
		wantCheck(t, []api.Node{dir("a"), n}, 2, api.OK)
		// Only a directory with just this path is the parent.
		for _, p := range []api.Node{file("a", 0, ""), file("a", 2, "x"), symlink("a", "d"), symlink("a", "a"), dir("A"), dir("aa"), dir("a."), dir("b")} {
			wantCheck(t, []api.Node{p, n}, 1, api.ErrParent)
			wantCheck(t, []api.Node{n, p}, 0, api.ErrParent)
		}
	}
	// All the directories above a node are nodes, each for itself.
	deep := []api.Node{dir("a"), dir("a/b"), dir("a/b/c"), file("a/b/c/d", 0, "")}
	random := rand.New(rand.NewSource(2))
	for range 30 {
		random.Shuffle(len(deep), func(i, j int) { deep[i], deep[j] = deep[j], deep[i] })
		wantCheck(t, deep, 4, api.OK)
	}
	wantCheck(t, []api.Node{dir("a"), dir("a/b"), file("a/b/c/d", 0, "")}, 2, api.ErrParent)
	wantCheck(t, []api.Node{dir("a"), dir("a/b/c"), file("a/b/c/d", 0, "")}, 1, api.ErrParent)
	wantCheck(t, []api.Node{file("a/b/c/d", 0, ""), dir("a/b/c"), dir("a/b")}, 2, api.ErrParent)
	wantCheck(t, []api.Node{dir("b"), file("a/b", 0, "")}, 1, api.ErrParent)
	// The directory may be the second node of its path: the error is then that of this later node.
	wantCheck(t, []api.Node{file("a", 0, ""), file("a/b", 0, ""), dir("a")}, 2, api.ErrDuplicate)
	wantCheck(t, []api.Node{file("a/b", 0, ""), symlink("a", "t"), dir("a")}, 2, api.ErrDuplicate)
	// The directory need not have a parent itself, though it is then invalid.
	wantCheck(t, []api.Node{file("a/b/c", 0, ""), dir("a/b")}, 1, api.ErrParent)
}

// P13.2: the nodes of a positive class have the mode and the data of the first of them.
func TestClasses(t *testing.T) {
	wantCheck(t, []api.Node{file("b", 1, "x"), file("a", 1, "x"), file("c", 1, "x")}, 3, api.OK)
	wantCheck(t, []api.Node{file("a", 1, ""), with(file("b", 1, ""), func(n *api.Node) { n.Data = nil })}, 2, api.OK)
	wantCheck(t, []api.Node{file("a", 1, "x"), file("b", 2, "y"), file("c", math.MaxInt, "z")}, 3, api.OK)
	wantCheck(t, []api.Node{file("a", 1, "x"), file("b", 1<<32+1, "y")}, 2, api.OK)
	// Nodes of class 0 do not belong together.
	wantCheck(t, []api.Node{file("a", 0, "x"), file("b", 0, "y"), with(file("c", 0, "x"), func(n *api.Node) { n.Mode = 1 })}, 3, api.OK)
	wantCheck(t, []api.Node{dir("a"), symlink("b", "t"), file("c", 0, "y"), file("d", 1, "z")}, 4, api.OK)
	for _, other := range []string{"", "y", "xx", "x\x00", "X"} {
		wantCheck(t, []api.Node{file("a", 1, "x"), file("b", 1, other)}, 1, api.ErrLink)
		wantCheck(t, []api.Node{file("a", 7, other), dir("d"), file("b", 7, other), file("d/b", 7, "x"), file("c", 7, other)}, 3, api.ErrLink)
		// The first node of the list decides, not the least path and not the node before.
		wantCheck(t, []api.Node{file("z", 3, "x"), file("y", 3, "x"), file("a", 3, other), file("b", 3, other)}, 2, api.ErrLink)
		wantCheck(t, []api.Node{file("z", 3, "x"), file("a", 4, other), file("y", 4, other), file("b", 3, "x"), file("c", 4, "x")}, 4, api.ErrLink)
	}
	for _, mode := range []int{0, 1, 0o645, 4095} {
		other := with(file("b", 1, "x"), func(n *api.Node) { n.Mode = mode })
		wantCheck(t, []api.Node{file("a", 1, "x"), other}, 1, api.ErrLink)
		wantCheck(t, []api.Node{other, file("c", 1, "x"), file("a", 1, "x")}, 1, api.ErrLink)
		wantCheck(t, []api.Node{other, with(other, func(n *api.Node) { n.Path = "c" })}, 2, api.OK)
	}
	// The first node of the class may be invalid together with the others: it is still the one to compare with.
	wantCheck(t, []api.Node{file("a", 1, "x"), file("no/b", 2, "y"), file("c", 2, "z")}, 1, api.ErrParent)
	// Long data that differ in their last byte.
	long := strings.Repeat("x", 100000)
	wantCheck(t, []api.Node{file("a", 1, long+"a"), file("b", 1, long+"a"), file("c", 1, long+"b")}, 2, api.ErrLink)
}

// P13.2: of the errors of one node, the first one is returned, and the node with the least index counts.
func TestOrderOfErrorsTogether(t *testing.T) {
	duplicateOnly := file("f", 0, "")
	first := []api.Node{file("f", 1, "a")}
	for _, c := range []struct {
		l []api.Node
		n int
		e api.Errno
	}{
		{[]api.Node{file("f", 1, "a"), file("f", 1, "b")}, 1, api.ErrDuplicate},
		{[]api.Node{file("f", 1, "a"), file("no/f", 1, "b")}, 1, api.ErrParent},
		{[]api.Node{dir("no"), file("no/f", 1, "a"), file("no/f", 1, "b")}, 2, api.ErrDuplicate},
		{[]api.Node{file("no/f", 1, "a"), file("no/f", 1, "b")}, 0, api.ErrParent},
		{join(first, []api.Node{duplicateOnly, file("no/f", 0, "")}), 1, api.ErrDuplicate},
		{join(first, []api.Node{file("no/f", 0, ""), duplicateOnly}), 1, api.ErrParent},
		{join(first, []api.Node{file("g", 1, "b"), duplicateOnly}), 1, api.ErrLink},
		{join(first, []api.Node{file("g", 1, "b"), file("no/f", 0, "")}), 1, api.ErrLink},
		{join(first, []api.Node{file("no/f", 0, ""), file("g", 1, "b")}), 1, api.ErrParent},
		{join(first, []api.Node{duplicateOnly, file("g", 1, "b")}), 1, api.ErrDuplicate},
	} {
		wantCheck(t, c.l, c.n, c.e)
	}
}

// P13.3: the nodes are sorted bytewise.
func TestCanonOrder(t *testing.T) {
	sorted := []string{"", "\x00", "\x00\x00", "\x01", " ", "-", ".", "/", "0", "10", "2", "A", "B", "a", "a\x00", "a-", "a.x", "a/", "a/b", "a/b/c", "a/c", "a0", "aa", "ab", "b", "\x7f", "\x80", "\xc3\xa9", "\xe2\x82\xac", "\xff", "\xff\xff", "\xff\xff" + x(70000)}
	if !slices.IsSorted(sorted) {
		t.Fatal("the paths are not sorted")
	}
	var want []api.Node
	for i, p := range sorted {
		want = append(want, file(p, 0, strconv.Itoa(i)))
	}
	random := rand.New(rand.NewSource(3))
	wantCanon(t, want, want)
	for range 50 {
		l := slices.Clone(want)
		random.Shuffle(len(l), func(i, j int) { l[i], l[j] = l[j], l[i] })
		wantCanon(t, l, want)
	}
}

// P13.3: nodes with the same path keep their order.
func TestCanonIsStable(t *testing.T) {
	for _, n := range []int{2, 3, 12, 13, 20, 21, 50, 300, 1000} {
		var l, want []api.Node
		for i := range n {
			l = append(l, file("ba"[i%2:i%2+1], 0, strconv.Itoa(i)))
		}
		for first := 1; first >= 0; first-- {
			for i := first; i < n; i += 2 {
				want = append(want, l[i])
			}
		}
		wantCanon(t, l, want)
	}
}

// P13.3: the classes are numbered in the order of the sorted list.
func TestCanonClasses(t *testing.T) {
	for _, c := range []struct{ before, after []int }{
		{[]int{0}, []int{0}},
		{[]int{1}, []int{0}},
		{[]int{math.MaxInt}, []int{0}},
		{[]int{0, 0}, []int{0, 0}},
		{[]int{-1, -1}, []int{0, 0}},
		{[]int{math.MinInt, math.MinInt, math.MinInt}, []int{0, 0, 0}},
		{[]int{-1, 1, -1}, []int{0, 0, 0}},
		{[]int{-5, 5, 5, -5}, []int{0, 1, 1, 0}},
		{[]int{1, 1}, []int{1, 1}},
		{[]int{2, 2}, []int{1, 1}},
		{[]int{1, 2}, []int{0, 0}},
		{[]int{2, 1, 2, 1}, []int{1, 2, 1, 2}},
		{[]int{1, 2, 2, 1}, []int{1, 2, 2, 1}},
		{[]int{1, 2, 2}, []int{0, 1, 1}},
		{[]int{9, 7, 9, 8, 7, 6, 9}, []int{1, 2, 1, 0, 2, 0, 1}},
		{[]int{math.MaxInt, 1, math.MaxInt, 1}, []int{1, 2, 1, 2}},
		{[]int{1, 1<<32 + 1, 1 << 32}, []int{0, 0, 0}},
		{[]int{3, 2, 1, 3, 2, 1}, []int{1, 2, 3, 1, 2, 3}},
	} {
		var l, want []api.Node
		for i := range c.before {
			// Data and modes do not matter.
			l = append(l, with(file(fmt.Sprintf("%03d", i), c.before[i], strconv.Itoa(i)), func(n *api.Node) { n.Mode = i }))
			want = append(want, with(l[i], func(n *api.Node) { n.Class = c.after[i] }))
		}
		wantCanon(t, l, want)
		// The order of the list does not matter either.
		slices.Reverse(l)
		wantCanon(t, l, want)
	}
	// More classes than there are bits, digits or small numbers.
	var l, want []api.Node
	for i := range 1000 {
		l = append(l, file(fmt.Sprintf("%04d", i), 500-i%500, ""))
		want = append(want, file(fmt.Sprintf("%04d", i), i%500+1, ""))
	}
	wantCanon(t, l, want)
}

// P13.3: Canon accepts arbitrary lists and changes nothing but order and classes.
func TestCanonOfInvalidNodes(t *testing.T) {
	for _, c := range invalidNodes() {
		zero := with(c.node, func(n *api.Node) { n.Class = 0 })
		wantCanon(t, []api.Node{c.node}, []api.Node{zero})
		a := with(c.node, func(n *api.Node) { n.Class = 3 })
		one := with(c.node, func(n *api.Node) { n.Class = 1 })
		wantCanon(t, []api.Node{a, a, zero}, []api.Node{one, one, zero})
	}
	// Classes count for all kinds, and between nodes of the same path.
	wantCanon(t, []api.Node{
		{Kind: api.Symlink, Path: "b", Class: 4}, {Kind: -7, Path: "a", Class: 4, Mode: math.MinInt}, {Kind: api.Dir, Path: "a", Class: 2}, {Kind: api.Hardlink, Path: "", Class: 2, Target: "\x00"},
	}, []api.Node{
		{Kind: api.Hardlink, Path: "", Class: 1, Target: "\x00"}, {Kind: -7, Path: "a", Class: 2, Mode: math.MinInt}, {Kind: api.Dir, Path: "a", Class: 1}, {Kind: api.Symlink, Path: "b", Class: 2},
	})
	wantCanon(t, make([]api.Node, 3), make([]api.Node, 3))
}

// P13.3: the result shares memory with nothing.
func TestNewMemory(t *testing.T) {
	shared := []byte("shared data")
	l := []api.Node{file("c", 1, "own"), file("b", 2, ""), file("a", 2, ""), file("d", 0, "")}
	l[1].Data, l[2].Data, l[3].Data = shared, shared, shared[:6]
	before, want := texts(l), texts(canon(l))
	a, b := tree.Canon(l), tree.Canon(l)
	for i := range a {
		for j := range a[i].Data {
			a[i].Data[j] = '!'
		}
		_ = append(a[i].Data, "beyond the end"...)
		for k := range a {
			if k > i && text(a[k]) != want[k] {
				t.Errorf("node %d shares memory with node %d", k, i)
			}
		}
		a[i] = api.Node{}
	}
	_ = append(a, api.Node{Path: "beyond the end"})
	if !slices.Equal(texts(l), before) || string(shared) != "shared data" {
		t.Error("the argument has changed")
	}
	if !slices.Equal(texts(b), want) {
		t.Error("two results share memory")
	}
	for i := range l {
		l[i] = api.Node{}
	}
	copy(shared, "???????????")
	if !slices.Equal(texts(b), want) {
		t.Error("the result shares memory with the argument")
	}
}

// Rule 4: what is beyond the length of a slice is neither read nor written.
func TestBeyondLength(t *testing.T) {
	data := []byte("xyz")
	all := []api.Node{file("b", 1, ""), file("a", 1, ""), dir("d"), dir("d"), file("a", 1, "other"), {Kind: 9}}
	all[0].Data, all[1].Data = data[:1], []byte("x")
	before := texts(all)
	wantCheck(t, all[:3], 3, api.OK)
	wantCheck(t, all[:2], 2, api.OK)
	wantCanon(t, all[:2], []api.Node{file("a", 1, "x"), file("b", 1, "x")})
	wantCanon(t, all[:1], []api.Node{file("b", 0, "x")})
	wantEqual(t, all[:2], []api.Node{file("a", 5, "x"), file("b", 5, "x")}, true)
	wantFind(t, all[:1], "a", api.Node{}, false)
	if !slices.Equal(texts(all), before) || string(data) != "xyz" {
		t.Error("an argument has changed")
	}
}

// P13.4: Equal compares all that Canon leaves.
func TestEqual(t *testing.T) {
	l := []api.Node{dir("d"), file("d/x", 5, "data"), file("y", 5, "data"), symlink("s", "t"), file("z", 0, "data"), file("e", 0, "")}
	changes := []func(n *api.Node){
		func(n *api.Node) { n.Kind++ },
		func(n *api.Node) { n.Kind = -1 },
		func(n *api.Node) { n.Path += "x" },
		func(n *api.Node) { n.Path = strings.ToUpper(n.Path) },
		func(n *api.Node) { n.Mode++ },
		func(n *api.Node) { n.Mode += 1 << 32 },
		func(n *api.Node) { n.Target += "x" },
		func(n *api.Node) { n.Data = append(bytes.Clone(n.Data), 0) },
		func(n *api.Node) { n.Data = []byte("Data") },
	}
	wantEqual(t, l, l, true)
	wantEqual(t, l, nil, false)
	wantEqual(t, l, l[1:], false)
	wantEqual(t, l, l[:len(l)-1], false)
	wantEqual(t, l, join(l, []api.Node{file("zz", 0, "")}), false)
	wantEqual(t, l, join(l, l[:1]), false)
	for i := range l {
		for _, change := range changes {
			m := deepCopy(l)
			change(&m[i])
			wantEqual(t, l, m, false)
			wantEqual(t, m, m, true)
		}
	}
	reversed := deepCopy(l)
	slices.Reverse(reversed)
	wantEqual(t, l, reversed, true)
	// Lists of the same length that contain the same nodes with other multiplicities.
	wantEqual(t, []api.Node{l[0], l[0], l[3]}, []api.Node{l[0], l[3], l[3]}, false)
	// Nil and empty data are the same.
	empty := deepCopy(l)
	for i := range empty {
		if len(empty[i].Data) == 0 {
			empty[i].Data = []byte{}
		}
	}
	wantEqual(t, l, empty, true)
}

// P13.4: only the partition into classes matters.
func TestEqualClasses(t *testing.T) {
	files := func(classes ...int) []api.Node {
		var l []api.Node
		for i, c := range classes {
			l = append(l, file(strconv.Itoa(i), c, "data"))
		}
		return l
	}
	for _, group := range [][][]int{
		{{0, 0, 0, 0}, {1, 0, 0, 0}, {1, 2, 3, 4}, {4, 3, 2, 1}, {-1, -1, -1, -1}, {-1, 0, 1, 2}, {math.MinInt, math.MaxInt, -1, 0}},
		{{1, 1, 0, 0}, {2, 2, 1, 3}, {7, 7, -1, -1}, {math.MaxInt, math.MaxInt, 0, 5}},
		{{0, 1, 1, 0}, {3, 2, 2, 1}},
		{{1, 1, 2, 2}, {2, 2, 1, 1}, {5, 5, 9, 9}},
		{{1, 2, 1, 2}, {2, 1, 2, 1}},
		{{1, 2, 2, 1}, {2, 1, 1, 2}},
		{{1, 1, 1, 0}, {9, 9, 9, 1}, {1, 1, 1, -1}},
		{{1, 1, 1, 1}, {6, 6, 6, 6}},
	} {
		for _, a := range group {
			for _, b := range group {
				wantEqual(t, files(a...), files(b...), true)
			}
			for _, b := range [][]int{{0, 0, 0, 1}, {3, 3, 0, 0}, {0, 3, 3, 0}, {3, 3, 4, 4}, {3, 4, 3, 4}, {3, 4, 4, 3}, {3, 3, 3, 0}, {3, 3, 3, 3}, {0, 0, 3, 3}} {
				same := slices.Equal(texts(canon(files(a...))), texts(canon(files(b...))))
				wantEqual(t, files(a...), files(b...), same)
			}
		}
	}
	// In arbitrary lists, nodes of the same path are not interchangeable, because they keep their order.
	a, b := file("p", 0, "a"), file("p", 0, "b")
	wantEqual(t, []api.Node{a, b}, []api.Node{a, b}, true)
	wantEqual(t, []api.Node{a, b}, []api.Node{b, a}, false)
}

// P13.4: Find returns the first node of the path.
func TestFind(t *testing.T) {
	l := []api.Node{file("b", 7, "1"), dir("a"), file("b", 0, "2"), {Kind: 9, Path: "", Mode: -1, Class: -1}, {Path: "a/"}, symlink("a", "t"), {Path: "\x00"}, file(x(70000), 0, "long"), {Kind: api.File, Path: "zero"}}
	before := texts(l)
	wantFind(t, l, "b", l[0], true)
	wantFind(t, l, "a", l[1], true)
	wantFind(t, l[2:], "b", l[2], true)
	wantFind(t, l[2:], "a", l[5], true)
	wantFind(t, l, "", l[3], true)
	wantFind(t, l, "a/", l[4], true)
	wantFind(t, l, "\x00", l[6], true)
	wantFind(t, l, x(70000), l[7], true)
	wantFind(t, l, "zero", l[8], true)
	for _, p := range []string{"c", "B", "bb", "b/", "/b", "./b", "a/b", "\x00\x00", x(69999), x(70001), " "} {
		wantFind(t, l, p, api.Node{}, false)
	}
	wantFind(t, l[:3], "", api.Node{}, false)
	wantFind(t, []api.Node{}, "", api.Node{}, false)
	if !slices.Equal(texts(l), before) {
		t.Error("Find has changed its argument")
	}
}

// randomList returns a list of which the nodes are often, but not always, valid, by themselves and together.
func randomList(random *rand.Rand) []api.Node {
	paths := []string{"a", "b", "a/a", "a/b", "b/a", "a/a/a", "a.x", "A"}
	wild := random.Intn(3) == 0
	l := make([]api.Node, random.Intn(9))
	for i := range l {
		p := paths[random.Intn(len(paths))]
		switch random.Intn(5) {
		case 0:
			l[i] = symlink(p, "t")
		case 1, 2:
			l[i] = dir(p)
		default:
			l[i] = file(p, random.Intn(3), "xxxy"[random.Intn(4):][:1])
		}
		if wild && random.Intn(4) == 0 {
			makeWild(random, &l[i])
		}
	}
	return l
}

func makeWild(random *rand.Rand, n *api.Node) {
	switch random.Intn(7) {
	case 0:
		n.Kind = random.Intn(7) - 1
	case 1:
		n.Mode = []int{-1, 0, 0o644, 4095, 4096}[random.Intn(5)]
	case 2:
		n.Target = []string{"", "t", "\x00"}[random.Intn(3)]
	case 3:
		n.Data = []byte("xx"[:random.Intn(3)])
	case 4:
		n.Class = random.Intn(5) - 1
	case 5:
		n.Path = []string{"", "a/", "a//b", "..", "\xff", "\x00"}[random.Intn(6)]
	}
}

// P13.1 to P13.4: random lists against the model that is written from the chapter.
func TestAgainstTheChapter(t *testing.T) {
	random := rand.New(rand.NewSource(4))
	results := map[api.Errno]int{}
	equal := 0
	for range 60000 {
		l := randomList(random)
		n, e := check(l)
		results[e]++
		wantCheck(t, l, n, e)
		c := canon(l)
		wantCanon(t, l, c)
		m := slices.Clone(l)
		if len(m) > 0 {
			i, j := random.Intn(len(m)), random.Intn(len(m))
			m[i], m[j] = m[j], m[i]
			m[i].Class = random.Intn(4)
		}
		same := slices.Equal(texts(c), texts(canon(m)))
		if same {
			equal++
		}
		wantEqual(t, l, m, same)
		p := []string{"a", "a/b", "A", "none", ""}[random.Intn(5)]
		at := slices.IndexFunc(l, func(n api.Node) bool { return n.Path == p })
		if at < 0 {
			wantFind(t, l, p, api.Node{}, false)
		} else {
			wantFind(t, l, p, l[at], true)
		}
		if t.Failed() {
			return
		}
	}
	for _, e := range []api.Errno{api.OK, api.ErrKind, api.ErrSyntax, api.ErrMode, api.ErrArg, api.ErrLink, api.ErrDuplicate, api.ErrParent} {
		if results[e] < 200 {
			t.Errorf("only %d lists with the result %v", results[e], e)
		}
	}
	if equal < 10000 || equal > 50000 {
		t.Errorf("%d lists were equal", equal)
	}
}

// randomTree returns a valid tree in a random order.
func randomTree(random *rand.Rand) []api.Node {
	var l []api.Node
	parents := []string{""}
	used := map[string]bool{}
	classes := []int{1, 2, 5, 1 << 40, math.MaxInt}
	for range random.Intn(30) {
		p := parents[random.Intn(len(parents))] + []string{"a", "b", "a.x", "A", "\xff", "0"}[random.Intn(6)]
		if used[p] {
			continue
		}
		used[p] = true
		switch random.Intn(4) {
		case 0:
			l = append(l, dir(p))
			parents = append(parents, p+"/")
		case 1:
			l = append(l, symlink(p, p))
		case 2:
			l = append(l, file(p, 0, p))
		default:
			i := random.Intn(len(classes))
			l = append(l, with(file(p, classes[i], strconv.Itoa(i)), func(n *api.Node) { n.Mode = i }))
		}
	}
	random.Shuffle(len(l), func(i, j int) { l[i], l[j] = l[j], l[i] })
	return l
}

// P13.5: Canon preserves validity and depends neither on the order of the nodes nor on the class numbers.
func TestConsequences(t *testing.T) {
	random := rand.New(rand.NewSource(5))
	for range 10000 {
		l := randomTree(random)
		wantCheck(t, l, len(l), api.OK)
		c := tree.Canon(l)
		wantCheck(t, c, len(l), api.OK)
		wantCanon(t, c, c)
		wantEqual(t, l, c, true)
		renamed := deepCopy(l)
		names := random.Perm(10)
		numbers := map[int]int{}
		for i, n := range renamed {
			if _, ok := numbers[n.Class]; !ok {
				numbers[n.Class] = names[len(numbers)] + 1
			}
			if n.Class > 0 {
				renamed[i].Class = numbers[n.Class]
			}
		}
		random.Shuffle(len(l), func(i, j int) { renamed[i], renamed[j] = renamed[j], renamed[i] })
		wantCanon(t, renamed, c)
		wantEqual(t, l, renamed, true)
		if t.Failed() {
			return
		}
	}
	// Canon is idempotent also where the list is no valid tree.
	for range 10000 {
		c := tree.Canon(randomList(random))
		wantCanon(t, c, c)
	}
}

// P13.1: the errors of a node are those of fit.Check for its entry.
func TestErrorsOfFit(t *testing.T) {
	random := rand.New(rand.NewSource(6))
	for range 20000 {
		n := []api.Node{dir("a"), file("a", 0, "x"), symlink("a", "t")}[random.Intn(3)]
		for range random.Intn(4) {
			makeWild(random, &n)
		}
		if n.Kind < 0 || n.Kind > 2 {
			continue
		}
		e := api.Entry{Kind: n.Kind, Path: n.Path, Mode: n.Mode, Target: n.Target}
		if n.Kind == api.File {
			e.Size = int64(len(n.Data))
		}
		if err := fit.Check(e); err != api.OK {
			wantCheck(t, []api.Node{n}, 0, err)
		}
	}
}

// P1: large lists do not take time that grows with the square of their length.
func TestManyNodes(t *testing.T) {
	const n = 100000
	l := []api.Node{dir("d")}
	for i := range n {
		l = append(l, file("d/"+strconv.Itoa(i), n-i/2, "data"))
	}
	if i, err := tree.Check(l); i != n+1 || err != api.OK {
		t.Error(i, err)
	}
	c := tree.Canon(l)
	if len(c) != n+1 || c[1].Class != 1 || c[n].Class == 0 {
		t.Error(len(c))
	}
	if !tree.Equal(l, c) {
		t.Error("not equal")
	}
	l = append(l, file("d/0", 0, ""))
	if i, err := tree.Check(l); i != n+1 || err != api.ErrDuplicate {
		t.Error(i, err)
	}
}

// P1: no argument makes a function panic.
func TestNoPanic(t *testing.T) {
	ints := []int{math.MinInt, -1, 0, 1, 2, 3, 4, 4095, 4096, math.MaxInt}
	strs := []string{"", "/", ".", "a", "a/b", "\x00", "\xff\xfe", x(65536), x(65537), strings.Repeat("a/", 40000)}
	random := rand.New(rand.NewSource(7))
	pick := func() int { return ints[random.Intn(len(ints))] }
	for range 200 {
		l := make([]api.Node, random.Intn(6))
		for i := range l {
			l[i] = api.Node{Kind: pick(), Path: strs[random.Intn(len(strs))], Mode: pick(), Target: strs[random.Intn(len(strs))], Data: []byte(strs[random.Intn(len(strs)-3)]), Class: pick()}
		}
		n, e := check(l)
		wantCheck(t, l, n, e)
		wantCanon(t, l, canon(l))
		tree.Equal(l, l[:len(l)/2])
		tree.Find(l, strs[random.Intn(len(strs))])
		if t.Failed() {
			return
		}
	}
}

// P2, rule 6: calls are independent of each other, also at the same time.
func TestConcurrentCalls(t *testing.T) {
	shared := randomTree(rand.New(rand.NewSource(8)))
	var group sync.WaitGroup
	for seed := range 8 {
		group.Go(func() {
			random := rand.New(rand.NewSource(int64(seed)))
			for range 500 {
				l := randomList(random)
				n, e := check(l)
				wantCheck(t, l, n, e)
				wantCanon(t, l, canon(l))
				wantCanon(t, shared, canon(shared))
			}
		})
	}
	group.Wait()
}
