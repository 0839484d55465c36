package pathname_test

import (
	"bytes"
	"math/rand"
	"regexp"
	"slices"
	"strings"
	"testing"

	"paxtar/api"
	"paxtar/pathname"
)

// isPath matches the paths that are valid if they are not too long: a component without a dot, one with a dot and something else, or one of at least three bytes. Bytes that are no UTF-8 match like characters.
var isPath = regexp.MustCompile(`^(?s:[^/\x00.]|[^/\x00.][^/\x00]|\.[^/\x00.]|[^/\x00]{3,})(/(?s:[^/\x00.]|[^/\x00.][^/\x00]|\.[^/\x00.]|[^/\x00]{3,}))*$`)

// odd are strings of all kinds: valid paths and other ones.
var odd = []string{"", "/", "//", "///", "a", "/a", "a/", "/a/", "a//b", "a/b/c", "a/b/c/", ".", "..", "...", "./a", "a/.", "a/./b", "../a", "a/..", "a/../b", ".../a", ".a", "a.", "..a", "a..", "\x00", "a\x00", "\x00a", "a/\x00/b", "\x00/", " ", " /\n", "\\", "a\\b", "\xff", "\xff/\xfe", "\u00e9/\U0001f600", "\u2024/\uff0f", "\xc0\xaf", "C:/x", "~/x", "-", "*"}

// x returns a string of n bytes without a slash.
func x(n int) string { return strings.Repeat("x", n) }

// each calls f with all strings of up to n bytes of an alphabet.
func each(alphabet string, n int, f func(s string)) {
	var visit func(s string)
	visit = func(s string) {
		f(s)
		if len(s) == n {
			return
		}
		for i := range len(alphabet) {
			visit(s + alphabet[i:i+1])
		}
	}
	visit("")
}

// randomPaths returns strings of up to 300 bytes, of which many are longer than a name and have slashes about the bounds.
func randomPaths() []string {
	random := rand.New(rand.NewSource(8))
	var l []string
	for range 20000 {
		b := bytes.Repeat([]byte("x"), random.Intn(300))
		for i := range b {
			if random.Intn(256) == 0 {
				b[i] = byte(random.Intn(256))
			}
		}
		for range random.Intn(5) {
			if len(b) > 0 {
				b[random.Intn(len(b))] = '/'
			}
		}
		l = append(l, string(b))
	}
	return l
}

// paths returns strings of all lengths and kinds.
func paths() []string {
	l := append(randomPaths(), odd...)
	for n := range 300 {
		l = append(l, x(n), strings.Repeat("/", n), strings.Repeat("x/", n), strings.Repeat("/x", n), "/"+x(n), x(n)+"/")
	}
	for _, n := range []int{1 << 10, api.MaxPath - 1, api.MaxPath, api.MaxPath + 1, 1 << 20} {
		l = append(l, x(n), strings.Repeat("/", n), strings.Repeat("\x00", n), strings.Repeat("x/", n/2), "p/"+x(n))
	}
	return l
}

func checkCheck(t *testing.T, p string, want api.Errno) {
	t.Helper()
	if err := pathname.Check(p); err != want {
		t.Errorf("Check(%.50q) of %d bytes = %v; want %v", p, len(p), err, want)
	}
}

func checkParent(t *testing.T, p, parent, base string) {
	t.Helper()
	if got := pathname.Parent(p); got != parent {
		t.Errorf("Parent(%.50q) of %d bytes = %.50q; want %.50q", p, len(p), got, parent)
	}
	if got := pathname.Base(p); got != base {
		t.Errorf("Base(%.50q) of %d bytes = %.50q; want %.50q", p, len(p), got, base)
	}
}

func checkSplit(t *testing.T, p, wantPrefix, wantName string, wantOK bool) {
	t.Helper()
	prefix, name, ok := pathname.Split(p)
	if prefix != wantPrefix || name != wantName || ok != wantOK {
		t.Errorf("Split(%q) = %q, %q, %v; want %q, %q, %v", p, prefix, name, ok, wantPrefix, wantName, wantOK)
	}
}

func checkJoin(t *testing.T, prefix, name, want string) {
	t.Helper()
	if got := pathname.Join(prefix, name); got != want {
		t.Errorf("Join(%.50q, %.50q) = %.100q; want %.100q", prefix, name, got, want)
	}
}

func checkCompare(t *testing.T, a, b string, want int) {
	t.Helper()
	if got := pathname.Compare(a, b); got != want {
		t.Errorf("Compare(%.50q, %.50q) = %d; want %d", a, b, got, want)
	}
}

// split finds the result of Split for a path that is longer than a name: the shortest prefix with a suitable length and a slash and such a name after it.
func split(p string) (string, string, bool) {
	for i := 1; i <= 155 && i < len(p); i++ {
		name, found := strings.CutPrefix(p[i:], "/")
		if found && len(name) >= 1 && len(name) <= 100 {
			return p[:i], name, true
		}
	}
	return "", "", false
}

// The chapter's examples.
func TestExamples(t *testing.T) {
	checkParent(t, "a/b/c", "a/b", "c")
	checkSplit(t, x(99)+"/"+x(60), x(99), x(60), true)
}

// P8.1
func TestCheckOfValidPaths(t *testing.T) {
	for _, p := range []string{"a", "a/b", "a/b/c", "usr/local/bin", ".a", "a.", "..a", "a..", ".a.", "...", "....", "a/...", ".../a", "a/.b/c.", "..a/b..", " ", ". ", " .", "\n", "a b/\t", "\\", "..\\a", "\x01", "\x7f", "\xff", "\xc0\x80", "\xc0\xaf", "\xc0\xae", "\u00e9/\U0001f600", "\uff0f", "\u2024", "\u2025", "-/*", "a:b", "~"} {
		checkCheck(t, p, api.OK)
	}
}

// P8.1
func TestCheckOfInvalidPaths(t *testing.T) {
	for _, p := range []string{"", "/", "//", "/a", "a/", "a/b/", "//a", "a//", "a//b", "a///b", ".", "..", "./", "../", "/.", "/..", "./a", "../a", "a/.", "a/..", "a/./b", "a/../b", "../..", "a/b/../c", "...//a", "\x00", "a\x00", "\x00a", "a/\x00", "\x00/a", "a/b\x00c/d", ".\x00", "..\x00"} {
		checkCheck(t, p, api.ErrSyntax)
	}
}

// P8.1: all strings of up to 7 bytes of an alphabet.
func TestCheckOfAllShortStrings(t *testing.T) {
	valid := 0
	each("a./\x00\xff", 7, func(p string) {
		want := api.ErrSyntax
		if isPath.MatchString(p) {
			want = api.OK
			valid++
		}
		checkCheck(t, p, want)
	})
	if valid < 1000 {
		t.Errorf("only %d paths are valid", valid)
	}
}

// P8.1: every byte as a path, and at the start, inside and at the end of a component.
func TestCheckOfEveryByte(t *testing.T) {
	for c := range 256 {
		b := string([]byte{byte(c)})
		valid := map[string]bool{b: c != 0 && c != '/' && c != '.', b + "a": c != 0 && c != '/', "a" + b: c != 0 && c != '/', "a" + b + "a": c != 0, "a/" + b: c != 0 && c != '/' && c != '.', b + "/a": c != 0 && c != '/' && c != '.', "a/" + b + "/a": c != 0 && c != '/' && c != '.', "." + b: c != 0 && c != '/' && c != '.', b + ".": c != 0 && c != '/' && c != '.', b + "..": c != 0 && c != '/', "." + b + ".": c != 0 && c != '/'}
		for p, ok := range valid {
			if ok {
				checkCheck(t, p, api.OK)
			} else {
				checkCheck(t, p, api.ErrSyntax)
			}
		}
	}
}

// P8.1: an invalid component is found at every place among others.
func TestCheckOfEveryComponent(t *testing.T) {
	for n := 1; n <= 40; n++ {
		for i := range n {
			for _, c := range []string{"", ".", "..", "\x00", "b", ".b", "..."} {
				parts := slices.Repeat([]string{"a"}, n)
				parts[i] = c
				want := api.ErrSyntax
				if strings.HasSuffix(c, "b") || c == "..." {
					want = api.OK
				}
				checkCheck(t, strings.Join(parts, "/"), want)
			}
		}
	}
}

// P8.1: at most 65536 bytes are permitted; the length precedes all other errors.
func TestCheckOfLongPaths(t *testing.T) {
	for _, n := range []int{100, 101, 155, 156, 256, 257, 4096, 4097, 65534, 65535, 65536} {
		checkCheck(t, x(n), api.OK)
		checkCheck(t, "a/"+x(n-2), api.OK)
		checkCheck(t, x(n-1)+".", api.OK)
		checkCheck(t, strings.Repeat("a/", n/2-1)+x(n-2*(n/2-1)), api.OK)
		for _, p := range []string{strings.Repeat("/", n), x(n-1) + "/", "/" + x(n-1), x(n-1) + "\x00", "\x00" + x(n-1), x(n-2) + "/.", x(n-3) + "/..", "../" + x(n-3), strings.Repeat("\x00", n)} {
			checkCheck(t, p, api.ErrSyntax)
		}
	}
	for _, n := range []int{65537, 65538, 65536 + 100, 1 << 17, 1<<17 + 1, 1 << 20, 1<<24 + 1} {
		for _, p := range []string{x(n), "a/" + x(n-2), strings.Repeat("/", n), x(n-1) + "\x00", "\x00" + x(n-1), "/" + x(n-1), x(n-1) + "/", x(n-2) + "/.", strings.Repeat("\x00", n), strings.Repeat("\u00e9", n/2+1)} {
			checkCheck(t, p, api.ErrTooLong)
		}
	}
	checkCheck(t, strings.Repeat("\u00e9", 32768), api.OK)
	checkCheck(t, strings.Repeat("\u00e9", 32769), api.ErrTooLong)
}

// P8.1
func TestParentAndBase(t *testing.T) {
	for _, c := range []struct{ p, parent, base string }{
		{"", "", ""},
		{"a", "", "a"},
		{"a/b", "a", "b"},
		{"abc/def/ghi", "abc/def", "ghi"},
		{"/", "", ""},
		{"//", "/", ""},
		{"/a", "", "a"},
		{"a/", "a", ""},
		{"a//b", "a/", "b"},
		{"a/b//", "a/b/", ""},
		{".", "", "."},
		{"..", "", ".."},
		{"a/..", "a", ".."},
		{"./a", ".", "a"},
		{"\x00", "", "\x00"},
		{"a\x00/\x00b", "a\x00", "\x00b"},
		{"a\\b", "", "a\\b"},
		{"\xff/\xfe", "\xff", "\xfe"},
		{"\xc0\xaf", "", "\xc0\xaf"},
		{"\u00e9/\U0001f600", "\u00e9", "\U0001f600"},
		{x(70000), "", x(70000)},
		{x(70000) + "/" + x(80000), x(70000), x(80000)},
		{strings.Repeat("/", 70000), strings.Repeat("/", 69999), ""},
	} {
		checkParent(t, c.p, c.parent, c.base)
	}
}

// P8.1: the parts before and after the last slash of all short strings.
func TestParentAndBaseOfAllShortStrings(t *testing.T) {
	each("ab./\x00\xff", 6, func(p string) {
		parts := strings.Split(p, "/")
		last := len(parts) - 1
		checkParent(t, p, strings.Join(parts[:last], "/"), parts[last])
	})
}

// P8.2: at most 100 bytes are the name, whatever they are.
func TestSplitOfNames(t *testing.T) {
	for n := range 101 {
		for _, p := range []string{x(n), strings.Repeat("/", n), strings.Repeat("\x00", n), strings.Repeat("\xff", n), strings.Repeat("a/b", n)[:n], strings.Repeat("/.", n)[:n]} {
			checkSplit(t, p, "", p, true)
		}
	}
	for _, p := range odd {
		checkSplit(t, p, "", p, true)
	}
}

// P8.2: a slash of each index in a string of each length.
func TestSplitAtOneSlash(t *testing.T) {
	for n := 101; n <= 400; n++ {
		checkSplit(t, x(n), "", "", false)
		for i := range n {
			p := x(i) + "/" + x(n-i-1)
			if i >= 1 && i <= 155 && n-i-1 >= 1 && n-i-1 <= 100 {
				checkSplit(t, p, p[:i], p[i+1:], true)
			} else {
				checkSplit(t, p, "", "", false)
			}
		}
	}
}

// P8.2: the bounds of the prefix and the name, one by one.
func TestSplitAtTheBounds(t *testing.T) {
	checkSplit(t, "a/"+x(99), "a", x(99), true)
	checkSplit(t, "a/"+x(100), "a", x(100), true)
	checkSplit(t, "a/"+x(101), "", "", false)
	checkSplit(t, "/"+x(99), "", "/"+x(99), true)
	checkSplit(t, "/"+x(100), "", "", false)
	checkSplit(t, x(155)+"/a", x(155), "a", true)
	checkSplit(t, x(155)+"/"+x(100), x(155), x(100), true)
	checkSplit(t, x(155)+"/"+x(101), "", "", false)
	checkSplit(t, x(156)+"/a", "", "", false)
	checkSplit(t, x(156)+"/"+x(100), "", "", false)
	checkSplit(t, x(99)+"/", "", x(99)+"/", true)
	checkSplit(t, x(100)+"/", "", "", false)
	checkSplit(t, x(155)+"/", "", "", false)
}

// P8.2: of several suitable slashes the first one is used, whether or not slashes that are not suitable precede it.
func TestSplitAtTheFirstSuitableSlash(t *testing.T) {
	checkSplit(t, x(40)+"/"+x(50)+"/"+x(50), x(40)+"/"+x(50), x(50), true)
	checkSplit(t, x(60)+"/"+x(40)+"/"+x(40), x(60), x(40)+"/"+x(40), true)
	checkSplit(t, "a/"+x(98)+"/b", "a", x(98)+"/b", true)
	checkSplit(t, "a/"+x(99)+"/b", "a/"+x(99), "b", true)
	checkSplit(t, "/a/"+x(100), "/a", x(100), true)
	checkSplit(t, "/"+x(100)+"/a", "/"+x(100), "a", true)
	checkSplit(t, x(60)+"//"+x(60), x(60), "/"+x(60), true)
	checkSplit(t, x(100)+"//", x(100), "/", true)
	checkSplit(t, x(155)+"//", x(155), "/", true)
	checkSplit(t, x(156)+"//", "", "", false)
	checkSplit(t, strings.Repeat("/", 101), "/", strings.Repeat("/", 99), true)
	checkSplit(t, strings.Repeat("/", 256), strings.Repeat("/", 155), strings.Repeat("/", 100), true)
	checkSplit(t, strings.Repeat("/", 257), "", "", false)
	checkSplit(t, strings.Repeat("\x00", 100)+"/\x00", strings.Repeat("\x00", 100), "\x00", true)
	checkSplit(t, strings.Repeat("\\", 101), "", "", false)
	checkSplit(t, strings.Repeat("\xc0\xaf", 60), "", "", false)
	checkSplit(t, strings.Repeat("\u00e9", 60)+"/\u00e9", strings.Repeat("\u00e9", 60), "\u00e9", true)
}

// P8.2: two slashes of all pairs of indexes.
func TestSplitAtTwoSlashes(t *testing.T) {
	for _, n := range []int{101, 102, 110, 155, 156, 157, 200, 255, 256, 257, 300} {
		for i := range n {
			for j := range i {
				b := []byte(x(n))
				b[i], b[j] = '/', '/'
				prefix, name, ok := split(string(b))
				checkSplit(t, string(b), prefix, name, ok)
			}
		}
	}
}

// P8.2: strings of all kinds.
func TestSplitOfLongStrings(t *testing.T) {
	found, missing := 0, 0
	for _, p := range paths() {
		if len(p) <= 100 {
			checkSplit(t, p, "", p, true)
			continue
		}
		prefix, name, ok := split(p)
		checkSplit(t, p, prefix, name, ok)
		if ok {
			found++
		} else {
			missing++
		}
	}
	if found < 1000 || missing < 1000 {
		t.Errorf("%d strings can be split and %d cannot", found, missing)
	}
}

// P8.2
func TestJoin(t *testing.T) {
	for _, c := range []struct{ prefix, name, want string }{
		{"", "", ""},
		{"", "a", "a"},
		{"a", "", "a/"},
		{"a", "b", "a/b"},
		{"a/b", "c/d", "a/b/c/d"},
		{"", "/a", "/a"},
		{"", "/", "/"},
		{"/", "", "//"},
		{"/", "/", "///"},
		{"a/", "b", "a//b"},
		{"a", "/b", "a//b"},
		{".", "..", "./.."},
		{"..", "a", "../a"},
		{"\x00", "\x00", "\x00/\x00"},
		{" ", " ", " / "},
		{"\xff", "\xfe", "\xff/\xfe"},
		{x(155), x(100), x(155) + "/" + x(100)},
		{x(156), x(101), x(156) + "/" + x(101)},
		{x(70000), x(80000), x(70000) + "/" + x(80000)},
	} {
		checkJoin(t, c.prefix, c.name, c.want)
	}
	for _, prefix := range odd {
		for _, name := range odd {
			if prefix == "" {
				checkJoin(t, prefix, name, name)
			} else {
				checkJoin(t, prefix, name, strings.Join([]string{prefix, name}, "/"))
			}
		}
	}
}

// P8.3: bytes are compared, not components, characters or numbers.
func TestCompare(t *testing.T) {
	ascending := []string{"", "\x00", "\x00\x00", "\x00a", "\x01", "\n", " ", "-", ".", "..", "/", "//", "10", "2", "9", "A", "B", "a", "a\x00", "a b", "a-b", "a.b", "a/", "a/b", "a/b/c", "a/c", "a0", "aa", "ab", "b", "e", "e\u0301", "z", "\x7f", "\x80", "\xc0\x80", "\u00e9", "\uffff", "\U0001f600", "\xff", "\xff\xff"}
	for i, a := range ascending {
		for j, b := range ascending {
			switch {
			case i < j:
				checkCompare(t, a, b, -1)
			case i == j:
				checkCompare(t, a, strings.Clone(b), 0)
			default:
				checkCompare(t, a, b, 1)
			}
		}
	}
}

// P8.3: every two bytes, also at the end of equal strings and before different ones.
func TestCompareOfEveryByte(t *testing.T) {
	for c := range 256 {
		for d := range 256 {
			want := 0
			if c < d {
				want = -1
			} else if c > d {
				want = 1
			}
			a, b := string([]byte{byte(c)}), string([]byte{byte(d)})
			checkCompare(t, a, b, want)
			checkCompare(t, "a/b"+a, "a/b"+b, want)
			if want != 0 {
				checkCompare(t, a, b+"a", want)
				checkCompare(t, a+"\xff", b+"\x00", want)
			}
		}
	}
}

// P8.3: long strings that differ in their last byte or in their length only.
func TestCompareOfLongStrings(t *testing.T) {
	for _, n := range []int{7, 8, 9, 15, 16, 31, 32, 33, 63, 64, 65, 100, 155, 256, 65536, 65537, 1 << 20} {
		s := x(n)
		checkCompare(t, s, x(n), 0)
		checkCompare(t, s+"a", s+"b", -1)
		checkCompare(t, s+"b", s+"a", 1)
		checkCompare(t, s+"\x7f", s+"\x80", -1)
		checkCompare(t, s, s+"\x00", -1)
		checkCompare(t, s+"\x00", s, 1)
		checkCompare(t, s, "y", -1)
		checkCompare(t, "y", s, 1)
	}
}

// P8.4, first half: also for strings that are no paths.
func TestJoinInvertsSplit(t *testing.T) {
	for _, p := range paths() {
		prefix, name, ok := pathname.Split(p)
		if ok {
			checkJoin(t, prefix, name, p)
			continue
		}
		if prefix != "" || name != "" {
			t.Errorf("Split(%.50q) = %q, %q, false", p, prefix, name)
		}
	}
}

// P8.4, second half; the parents of the parents are valid as well.
func TestParentsOfValidPaths(t *testing.T) {
	l := paths()
	each("ab.-/", 7, func(p string) { l = append(l, p) })
	l = append(l, strings.Repeat("a/", 32767)+"aa", x(65534)+"/a", "a/"+x(65534))
	valid, steps := 0, 0
	for _, p := range l {
		if pathname.Check(p) != api.OK {
			continue
		}
		valid++
		parent := pathname.Parent(p)
		checkJoin(t, parent, pathname.Base(p), p)
		checkCheck(t, pathname.Base(p), api.OK)
		if parent == "" {
			continue
		}
		steps++
		checkCheck(t, parent, api.OK)
		checkCompare(t, parent, p, -1)
		checkCompare(t, p, parent, 1)
	}
	if valid < 1000 || steps < 1000 {
		t.Errorf("%d paths are valid, and %d have a parent", valid, steps)
	}
}

// P1: no call panics, whatever its arguments.
func TestNoPanic(t *testing.T) {
	for i, p := range paths() {
		pathname.Check(p)
		pathname.Parent(p)
		pathname.Base(p)
		pathname.Split(p)
		for _, q := range []string{"", "/", p, odd[i%len(odd)]} {
			pathname.Join(p, q)
			pathname.Join(q, p)
			pathname.Compare(p, q)
			pathname.Compare(q, p)
		}
	}
}
