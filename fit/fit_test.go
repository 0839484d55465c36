package fit_test

import (
	"fmt"
	"math"
	"math/rand"
	"slices"
	"strconv"
	"strings"
	"testing"

	"paxtar/api"
	"paxtar/fit"
	"paxtar/paxrec"
	"paxtar/ustar"
)

const (
	maxOctal = 8589934591
	maxSize  = 1099511627776
)

var kinds = []int{api.Dir, api.File, api.Symlink, api.Hardlink}

// noKinds are no kinds of entries; some of them are when they are cut to 8 or 32 bits, and some are types of headers.
var noKinds = []int{-1, 4, 5, 6, -2, -3, -4, 255, 256, 257, 1 << 32, 1<<32 + 1, math.MinInt32, math.MaxInt32, math.MinInt, math.MinInt + 1, math.MaxInt, '0', '1', '2', '5', 'x'}

// shortPaths fit into the name; for longPaths the prefix is given with which they fit; recordPaths do not fit.
var (
	shortPaths = []string{"a", "a/b", "a/b/c", ".a", "a.", "...", "..a/b..", " ", "\n", "=", "path=a", "pax", "0", "\\", "\x01", "\xff", "\xc0\x80", "\u00e9/\U0001f600", x(99), x(100), "a/" + x(98), x(98) + "/a", x(50) + "/" + x(49), strings.Repeat("a/", 49) + "aa", strings.Repeat("\u00e9", 50)}
	longPaths  = map[string]string{
		"a/" + x(99):                             "a",
		"a/" + x(100):                            "a",
		x(99) + "/a":                             x(99),
		x(99) + "/" + x(60):                      x(99),
		x(100) + "/a":                            x(100),
		x(155) + "/a":                            x(155),
		x(155) + "/" + x(100):                    x(155),
		"a/b/" + x(98):                           "a",
		"a/b/" + x(99):                           "a/b",
		"a/b/" + x(100):                          "a/b",
		"a/" + x(100) + "/b":                     "a/" + x(100),
		x(54) + "/" + x(99) + "/c":               x(54) + "/" + x(99),
		x(54) + "/" + x(100) + "/c":              x(54) + "/" + x(100),
		x(77) + "/" + x(77) + "/" + x(100):       x(77) + "/" + x(77),
		strings.Repeat("a/", 60) + "a":           strings.Repeat("a/", 10) + "a",
		strings.Repeat("a/", 127) + "a":          strings.Repeat("a/", 77) + "a",
		strings.Repeat("\xff", 155) + "/" + "\n": strings.Repeat("\xff", 155),
	}
	recordPaths = []string{x(101), x(102), x(155), x(156), x(255), x(256), x(257), x(300), x(101) + "/" + x(101), x(155) + "/" + x(101), x(156) + "/a", x(156) + "/" + x(100), "a/" + x(101), "a/b/" + x(101), x(55) + "/" + x(100) + "/c", "a/" + x(154) + "/a", x(100) + "/" + x(200) + "/" + x(50), strings.Repeat("a/", 128) + "a", strings.Repeat("a/", 128) + "aa", strings.Repeat("=", 101), strings.Repeat("\n", 101), strings.Repeat("\u00e9", 51), x(4096), "a/" + x(65534), x(65534) + "/a", strings.Repeat("ab/", 21845) + "a", x(65535), x(65536)}
)

// badPaths are not valid; longTexts are too long for a path and for a target.
var (
	badPaths  = []string{"", "/", "//", "/a", "a/", "a//b", ".", "..", "./a", "a/..", "a/../b", "\x00", "a\x00", "\x00a", "a/\x00/b", x(100) + "/", "/" + x(100), x(101) + "/", x(155) + "//" + x(99), x(99) + "\x00", strings.Repeat("/", 101), x(65535) + "/", x(65535) + "\x00", strings.Repeat("\x00", 65536)}
	longTexts = []string{x(65537), x(65536) + "/", x(65536) + "\x00", "a/" + x(65535), strings.Repeat("/", 65537), strings.Repeat("\x00", 65537), x(1 << 17), x(1 << 20)}
)

// oddTargets are targets of symbolic links only.
var oddTargets = []string{"/", "//", "/a", "a/", "a//b", ".", "..", "../a", "a/..", "/usr/lib/", strings.Repeat("/", 100), strings.Repeat("/", 101), strings.Repeat("../", 34), "/" + x(99), "/" + x(100), x(65535) + "/", strings.Repeat("/", 65536)}

// noTargets are not valid for any link; they are not too long.
var noTargets = []string{"", "\x00", "a\x00", "\x00a", "a\x00b", x(99) + "\x00", x(100) + "\x00", strings.Repeat("\x00", 100), strings.Repeat("\x00", 65536)}

var (
	goodModes = []int{0, 1, 7, 8, 0o644, 0o755, 0o777, 0o1000, 4094, 4095}
	badModes  = []int{-1, -2, -420, -4095, -4096, 4096, 4097, 8191, 0o100644, 1 << 16, 1<<16 + 420, 1 << 32, 1<<32 + 420, math.MinInt32, math.MaxInt32, math.MinInt, math.MaxInt}
)

var (
	headerSizes = []int64{0, 1, 3, 511, 512, 1<<31 - 1, 1 << 31, 1<<32 - 1, 1 << 32, 1<<32 + 1, maxOctal - 1, maxOctal}
	recordSizes = []int64{maxOctal + 1, maxOctal + 2, 9999999999, 10000000000, 1 << 34, 1 << 39, 999999999999, 1000000000000, maxSize - 1, maxSize}
	badSizes    = []int64{-1, -2, -512, -maxOctal, -maxSize, maxSize + 1, maxSize + 2, 1 << 50, math.MinInt32, math.MinInt64, math.MaxInt64 - 1, math.MaxInt64}
)

// x returns a string of n bytes without a slash.
func x(n int) string { return strings.Repeat("x", n) }

func record(key, value string) api.Record { return api.Record{Key: key, Value: value} }

// isPath is the definition of layer 8 but for the length.
func isPath(p string) bool {
	for _, c := range strings.Split(p, "/") {
		if c == "" || c == "." || c == ".." {
			return false
		}
	}
	return !strings.Contains(p, "\x00")
}

// check is Check: the conditions of the chapter in their order.
func check(e api.Entry) api.Errno {
	for _, c := range []struct {
		holds bool
		err   api.Errno
	}{
		{!slices.Contains(kinds, e.Kind), api.ErrKind},
		{len(e.Path) > 65536, api.ErrTooLong},
		{!isPath(e.Path), api.ErrSyntax},
		{e.Mode < 0 || e.Mode > 4095, api.ErrMode},
		{e.Kind == 2 && e.Mode != 0, api.ErrMode},
		{e.Kind <= 1 && e.Target != "", api.ErrArg},
		{e.Kind >= 2 && len(e.Target) > 65536, api.ErrTooLong},
		{e.Kind == 2 && (e.Target == "" || strings.Contains(e.Target, "\x00")), api.ErrSyntax},
		{e.Kind == 3 && !isPath(e.Target), api.ErrSyntax},
		{e.Kind == 1 && (e.Size < 0 || e.Size > maxSize), api.ErrRange},
		{e.Kind != 1 && e.Size != 0, api.ErrArg},
	} {
		if c.holds {
			return c.err
		}
	}
	return api.OK
}

// plan is Plan for a valid entry: of all prefixes, the shortest one is taken that leaves a name.
func plan(e api.Entry) (ustar.Header, []api.Record) {
	h := ustar.Header{Type: "5021"[e.Kind], Mode: e.Mode}
	values := map[string]string{}
	if len(e.Path) <= 100 {
		h.Name = e.Path
	} else {
		values["path"] = e.Path
		for i := 1; i <= 155 && i < len(e.Path); i++ {
			name, found := strings.CutPrefix(e.Path[i:], "/")
			if found && len(name) >= 1 && len(name) <= 100 {
				h.Prefix, h.Name = e.Path[:i], name
				delete(values, "path")
				break
			}
		}
	}
	if len(e.Target) <= 100 {
		h.Linkname = e.Target
	} else {
		values["linkpath"] = e.Target
	}
	if e.Size < 8589934592 {
		h.Size = e.Size
	} else {
		values["size"] = fmt.Sprint(e.Size)
	}
	var l []api.Record
	for _, key := range []string{"linkpath", "path", "size"} {
		if value, ok := values[key]; ok {
			l = append(l, record(key, value))
		}
	}
	return h, l
}

// merge is Merge: it searches the entry among all those that consist of values of the header and of the records.
func merge(h ustar.Header, l []api.Record) (api.Entry, api.Errno) {
	texts := []string{h.Name, h.Prefix + "/" + h.Name, h.Linkname}
	sizes := []int64{h.Size}
	for _, r := range l {
		texts = append(texts, r.Value)
		if n, err := strconv.ParseInt(r.Value, 10, 64); err == nil {
			sizes = append(sizes, n)
		}
	}
	kind := strings.IndexByte("5021", h.Type)
	for _, path := range texts {
		for _, target := range texts {
			for _, size := range sizes {
				e := api.Entry{Kind: kind, Path: path, Mode: h.Mode, Target: target, Size: size}
				if check(e) != api.OK {
					continue
				}
				if header, records := plan(e); header == h && slices.Equal(records, l) {
					return e, api.OK
				}
			}
		}
	}
	if len(l) > 0 {
		return api.Entry{}, api.ErrRecord
	}
	return api.Entry{}, api.ErrSyntax
}

// text shortens an entry, a header or records for a message.
func text(v any) string {
	s := fmt.Sprintf("%+q", fmt.Sprint(v))
	if len(s) > 400 {
		return s[:400] + "..."
	}
	return s
}

// checkEntry checks what Check and Plan return for an entry, and Merge for its plan.
func checkEntry(t *testing.T, e api.Entry, want api.Errno) {
	t.Helper()
	var header ustar.Header
	var records []api.Record
	if want == api.OK {
		header, records = plan(e)
	}
	checkPlan(t, e, header, records, want)
}

// checkPlan is checkEntry with a given plan.
func checkPlan(t *testing.T, e api.Entry, header ustar.Header, records []api.Record, want api.Errno) {
	t.Helper()
	if err := fit.Check(e); err != want {
		t.Fatalf("Check(%s) = %v; want %v", text(e), err, want)
	}
	h, l, err := fit.Plan(e)
	if h != header || !slices.Equal(l, records) || err != want {
		t.Fatalf("Plan(%s) = %s, %s, %v; want %s, %s, %v", text(e), text(h), text(l), err, text(header), text(records), want)
	}
	if want == api.OK {
		checkMerge(t, header, records, e, api.OK)
	}
}

func checkMerge(t *testing.T, h ustar.Header, l []api.Record, want api.Entry, wantErr api.Errno) {
	t.Helper()
	e, err := fit.Merge(h, l)
	if e != want || err != wantErr {
		t.Fatalf("Merge(%s, %s) = %s, %v; want %s, %v", text(h), text(l), text(e), err, text(want), wantErr)
	}
}

// checkNoEntry checks that no entry has this plan.
func checkNoEntry(t *testing.T, h ustar.Header, l ...api.Record) {
	t.Helper()
	if len(l) > 0 {
		checkMerge(t, h, l, api.Entry{}, api.ErrRecord)
	} else {
		checkMerge(t, h, l, api.Entry{}, api.ErrSyntax)
	}
}

// compareMerge reports whether Merge accepts what merge accepts.
func compareMerge(t *testing.T, h ustar.Header, l []api.Record) bool {
	t.Helper()
	want, wantErr := merge(h, l)
	checkMerge(t, h, l, want, wantErr)
	return wantErr == api.OK
}

// paths returns valid paths of all kinds.
func paths() []string {
	l := slices.Concat(shortPaths, recordPaths)
	for p := range longPaths {
		l = append(l, p)
	}
	slices.Sort(l)
	return l
}

// entries returns valid entries in which each field takes each of its values.
func entries() []api.Entry {
	var l []api.Entry
	all := paths()
	sizes := slices.Concat(headerSizes, recordSizes)
	for i, p := range all {
		l = append(l, api.Entry{Kind: api.Dir, Path: p}, api.Entry{Kind: api.File, Path: p})
		l = append(l, api.Entry{Kind: api.Symlink, Path: p, Target: "t"}, api.Entry{Kind: api.Symlink, Path: p, Target: x(101)}, api.Entry{Kind: api.Symlink, Path: "s", Target: p})
		l = append(l, api.Entry{Kind: api.Hardlink, Path: p, Target: "t"}, api.Entry{Kind: api.Hardlink, Path: p, Target: x(101)}, api.Entry{Kind: api.Hardlink, Path: "h", Target: p})
		l = append(l, api.Entry{Kind: api.Hardlink, Path: p, Target: all[(7*i+3)%len(all)], Mode: goodModes[i%len(goodModes)]})
		for _, n := range []int64{maxOctal, maxOctal + 1} {
			l = append(l, api.Entry{Kind: api.File, Path: p, Size: n, Mode: goodModes[i%len(goodModes)]})
		}
	}
	for _, s := range oddTargets {
		l = append(l, api.Entry{Kind: api.Symlink, Path: "odd", Target: s}, api.Entry{Kind: api.Symlink, Path: "odd/" + x(101), Target: s})
	}
	for _, n := range goodModes {
		for _, kind := range []int{api.Dir, api.File} {
			l = append(l, api.Entry{Kind: kind, Path: "mode", Mode: n})
		}
		l = append(l, api.Entry{Kind: api.Hardlink, Path: "mode", Target: "t", Mode: n})
	}
	for _, n := range sizes {
		l = append(l, api.Entry{Kind: api.File, Path: "sized", Size: n}, api.Entry{Kind: api.File, Path: "p/" + x(100), Size: n, Mode: 420})
	}
	return l
}

// The chapter's examples, and those of other chapters that concern this layer.
func TestExamples(t *testing.T) {
	checkPlan(t, api.Entry{Kind: api.File, Path: "a", Size: 8589934592}, ustar.Header{Type: '0', Name: "a"}, []api.Record{record("size", "8589934592")}, api.OK)
	checkPlan(t, api.Entry{Kind: api.Dir, Path: x(101)}, ustar.Header{Type: '5'}, []api.Record{record("path", x(101))}, api.OK)
	checkPlan(t, api.Entry{Kind: api.File, Path: x(99) + "/" + x(60), Mode: 420}, ustar.Header{Type: '0', Prefix: x(99), Name: x(60), Mode: 420}, nil, api.OK)
}

// P10.1: an unknown kind precedes all other errors.
func TestKinds(t *testing.T) {
	for _, kind := range noKinds {
		for _, e := range []api.Entry{{}, {Path: "a"}, {Path: "a", Target: "b"}, {Path: "a", Mode: 420, Size: 3}, {Path: x(65537), Mode: -1, Target: "\x00", Size: -1}, {Path: "\x00"}, {Path: "a", Mode: 4096}, {Path: "a", Size: math.MaxInt64}} {
			e.Kind = kind
			checkEntry(t, e, api.ErrKind)
		}
	}
	checkEntry(t, api.Entry{}, api.ErrSyntax)
	for _, kind := range kinds {
		checkEntry(t, api.Entry{Kind: kind}, api.ErrSyntax)
	}
	checkEntry(t, api.Entry{Kind: api.Dir, Path: "a"}, api.OK)
	checkEntry(t, api.Entry{Kind: api.File, Path: "a"}, api.OK)
	checkEntry(t, api.Entry{Kind: api.Symlink, Path: "a", Target: "b"}, api.OK)
	checkEntry(t, api.Entry{Kind: api.Hardlink, Path: "a", Target: "b"}, api.OK)
}

// P10.1: the error of a path precedes those of the other fields.
func TestPaths(t *testing.T) {
	check := func(p string, want api.Errno) {
		t.Helper()
		for _, e := range []api.Entry{{Kind: api.Dir}, {Kind: api.File}, {Kind: api.Symlink, Target: "t"}, {Kind: api.Hardlink, Target: "t"}} {
			e.Path = p
			checkEntry(t, e, want)
			if want != api.OK {
				for _, f := range []api.Entry{{Mode: -1, Target: x(65537), Size: -1}, {Mode: 4096}, {Target: "\x00"}, {Size: math.MaxInt64}} {
					f.Kind, f.Path = e.Kind, p
					checkEntry(t, f, want)
				}
			}
		}
	}
	for _, p := range paths() {
		check(p, api.OK)
	}
	for _, p := range badPaths {
		check(p, api.ErrSyntax)
	}
	for _, p := range longTexts {
		check(p, api.ErrTooLong)
	}
}

// P10.1: only a symbolic link must have the mode 0.
func TestModes(t *testing.T) {
	for n := range 4096 {
		checkEntry(t, api.Entry{Kind: api.Dir, Path: "a", Mode: n}, api.OK)
		checkEntry(t, api.Entry{Kind: api.File, Path: "a", Mode: n}, api.OK)
		checkEntry(t, api.Entry{Kind: api.Hardlink, Path: "a", Target: "b", Mode: n}, api.OK)
		want := api.ErrMode
		if n == 0 {
			want = api.OK
		}
		checkEntry(t, api.Entry{Kind: api.Symlink, Path: "a", Target: "b", Mode: n}, want)
	}
	for _, n := range badModes {
		for _, kind := range kinds {
			for _, target := range []string{"", "b", "\x00", x(65537)} {
				for _, size := range []int64{0, -1, math.MaxInt64} {
					checkEntry(t, api.Entry{Kind: kind, Path: "a", Mode: n, Target: target, Size: size}, api.ErrMode)
				}
			}
		}
	}
}

// P10.1: the target of each kind; its error precedes that of the size.
func TestTargets(t *testing.T) {
	check := func(target string, symlink, hardlink api.Errno) {
		t.Helper()
		without := api.ErrArg
		if target == "" {
			without = api.OK
		}
		for kind, want := range []api.Errno{without, without, symlink, hardlink} {
			checkEntry(t, api.Entry{Kind: kind, Path: "a", Target: target}, want)
			if want != api.OK {
				checkEntry(t, api.Entry{Kind: kind, Path: "a", Target: target, Size: -1}, want)
				checkEntry(t, api.Entry{Kind: kind, Path: "a", Target: target, Size: math.MaxInt64}, want)
			}
		}
	}
	for _, s := range paths() {
		check(s, api.OK, api.OK)
	}
	for _, s := range oddTargets {
		check(s, api.OK, api.ErrSyntax)
	}
	for _, s := range noTargets {
		check(s, api.ErrSyntax, api.ErrSyntax)
	}
	for _, s := range longTexts {
		check(s, api.ErrTooLong, api.ErrTooLong)
	}
	// A link may refer to itself: this is not checked here.
	check("a", api.OK, api.OK)
}

// P10.1
func TestSizes(t *testing.T) {
	check := func(n int64, want api.Errno) {
		t.Helper()
		checkEntry(t, api.Entry{Kind: api.File, Path: "a", Size: n}, want)
		checkEntry(t, api.Entry{Kind: api.File, Path: x(101), Mode: 420, Size: n}, want)
		other := api.ErrArg
		if n == 0 {
			other = api.OK
		}
		checkEntry(t, api.Entry{Kind: api.Dir, Path: "a", Size: n}, other)
		checkEntry(t, api.Entry{Kind: api.Symlink, Path: "a", Target: "b", Size: n}, other)
		checkEntry(t, api.Entry{Kind: api.Hardlink, Path: "a", Target: "b", Size: n}, other)
	}
	for _, n := range slices.Concat(headerSizes, recordSizes) {
		check(n, api.OK)
	}
	for _, n := range badSizes {
		check(n, api.ErrRange)
	}
	for p := int64(1); p <= maxSize; p *= 2 {
		check(p, api.OK)
		check(p-1, api.OK)
		check(maxSize-p, api.OK)
		check(-p, api.ErrRange)
		check(maxSize+p, api.ErrRange)
		check(math.MaxInt64-p, api.ErrRange)
	}
}

// P10.1: of several errors the first one is returned, for all combinations of right and wrong fields.
func TestOrderOfErrors(t *testing.T) {
	counts := map[api.Errno]int{}
	for _, kind := range append([]int{-1, 4}, kinds...) {
		for _, path := range []string{"a", "a/b", x(101), "", "/", "a\x00", x(65537)} {
			for _, mode := range []int{0, 1, 4095, -1, 4096} {
				for _, target := range []string{"", "t", "/", x(101), "\x00", x(65537), strings.Repeat("\x00", 65537)} {
					for _, size := range []int64{0, 1, maxOctal + 1, maxSize, -1, maxSize + 1} {
						e := api.Entry{Kind: kind, Path: path, Mode: mode, Target: target, Size: size}
						want := check(e)
						counts[want]++
						checkEntry(t, e, want)
					}
				}
			}
		}
	}
	for _, err := range []api.Errno{api.OK, api.ErrKind, api.ErrTooLong, api.ErrSyntax, api.ErrMode, api.ErrArg, api.ErrRange} {
		if counts[err] < 10 {
			t.Errorf("only %d entries have the result %v", counts[err], err)
		}
	}
}

// P10.2: the types, and the mode in the header.
func TestPlanOfKinds(t *testing.T) {
	checkPlan(t, api.Entry{Kind: api.Dir, Path: "d", Mode: 0o755}, ustar.Header{Type: '5', Name: "d", Mode: 0o755}, nil, api.OK)
	checkPlan(t, api.Entry{Kind: api.File, Path: "f", Mode: 0o644, Size: 3}, ustar.Header{Type: '0', Name: "f", Mode: 0o644, Size: 3}, nil, api.OK)
	checkPlan(t, api.Entry{Kind: api.Symlink, Path: "s", Target: "../f"}, ustar.Header{Type: '2', Name: "s", Linkname: "../f"}, nil, api.OK)
	checkPlan(t, api.Entry{Kind: api.Hardlink, Path: "h", Mode: 0o4711, Target: "f"}, ustar.Header{Type: '1', Name: "h", Mode: 0o4711, Linkname: "f"}, nil, api.OK)
}

// P10.2: a path is stored in the name, in the prefix and the name, or in a record.
func TestPlanOfPaths(t *testing.T) {
	check := func(path, prefix, name string, l ...api.Record) {
		t.Helper()
		checkPlan(t, api.Entry{Kind: api.Dir, Path: path, Mode: 7}, ustar.Header{Type: '5', Prefix: prefix, Name: name, Mode: 7}, l, api.OK)
		checkPlan(t, api.Entry{Kind: api.File, Path: path, Size: 5}, ustar.Header{Type: '0', Prefix: prefix, Name: name, Size: 5}, l, api.OK)
		checkPlan(t, api.Entry{Kind: api.Symlink, Path: path, Target: "t"}, ustar.Header{Type: '2', Prefix: prefix, Name: name, Linkname: "t"}, l, api.OK)
		checkPlan(t, api.Entry{Kind: api.Hardlink, Path: path, Target: "t", Mode: 1}, ustar.Header{Type: '1', Prefix: prefix, Name: name, Linkname: "t", Mode: 1}, l, api.OK)
	}
	for _, p := range shortPaths {
		check(p, "", p)
	}
	for p, prefix := range longPaths {
		check(p, prefix, strings.TrimPrefix(p, prefix+"/"))
	}
	for _, p := range recordPaths {
		check(p, "", "", record("path", p))
	}
	for n := 1; n <= 1000; n++ {
		if n <= 100 {
			check(x(n), "", x(n))
			check("a/"+x(n), map[bool]string{true: "a"}[n > 98], map[bool]string{true: x(n), false: "a/" + x(n)}[n > 98])
		} else {
			check(x(n), "", "", record("path", x(n)))
			check("a/"+x(n), "", "", record("path", "a/"+x(n)))
		}
	}
}

// P10.2: a target is stored in the link name or in a record. It is never split.
func TestPlanOfTargets(t *testing.T) {
	check := func(target string, hardlink bool) {
		t.Helper()
		linkname, l := target, []api.Record(nil)
		if len(target) > 100 {
			linkname, l = "", []api.Record{record("linkpath", target)}
		}
		checkPlan(t, api.Entry{Kind: api.Symlink, Path: "s", Target: target}, ustar.Header{Type: '2', Name: "s", Linkname: linkname}, l, api.OK)
		if hardlink {
			checkPlan(t, api.Entry{Kind: api.Hardlink, Path: "h", Target: target, Mode: 511}, ustar.Header{Type: '1', Name: "h", Linkname: linkname, Mode: 511}, l, api.OK)
		}
	}
	for _, s := range paths() {
		check(s, true)
	}
	for _, s := range oddTargets {
		check(s, false)
	}
	for n := 1; n <= 300; n++ {
		check(x(n), true)
		check("a/"+x(n), true)
		check(strings.Repeat("/", n), false)
	}
}

// P10.2: a size is stored in the header or in a record.
func TestPlanOfSizes(t *testing.T) {
	for _, n := range headerSizes {
		checkPlan(t, api.Entry{Kind: api.File, Path: "f", Size: n}, ustar.Header{Type: '0', Name: "f", Size: n}, nil, api.OK)
	}
	for n, s := range map[int64]string{maxOctal + 1: "8589934592", maxOctal + 2: "8589934593", 10000000000: "10000000000", 1 << 34: "17179869184", 999999999999: "999999999999", maxSize - 1: "1099511627775", maxSize: "1099511627776"} {
		checkPlan(t, api.Entry{Kind: api.File, Path: "f", Size: n}, ustar.Header{Type: '0', Name: "f"}, []api.Record{record("size", s)}, api.OK)
	}
}

// P10.2: several records are in ascending order of their keys.
func TestPlanOfSeveralRecords(t *testing.T) {
	checkPlan(t, api.Entry{Kind: api.File, Path: x(101), Mode: 420, Size: maxSize}, ustar.Header{Type: '0', Mode: 420}, []api.Record{record("path", x(101)), record("size", "1099511627776")}, api.OK)
	for _, target := range []string{x(102), "a/" + x(101), x(65536), strings.Repeat("z", 101)} {
		checkPlan(t, api.Entry{Kind: api.Symlink, Path: x(101), Target: target}, ustar.Header{Type: '2'}, []api.Record{record("linkpath", target), record("path", x(101))}, api.OK)
		checkPlan(t, api.Entry{Kind: api.Hardlink, Path: x(101), Target: target, Mode: 1}, ustar.Header{Type: '1', Mode: 1}, []api.Record{record("linkpath", target), record("path", x(101))}, api.OK)
	}
}

// P10.2 and rule 4: the records share no memory with those of another call, and Merge does not modify them.
func TestMemory(t *testing.T) {
	e := api.Entry{Kind: api.Hardlink, Path: x(101), Target: x(102), Mode: 3}
	want := []api.Record{record("linkpath", x(102)), record("path", x(101))}
	h, a, _ := fit.Plan(e)
	_, b, _ := fit.Plan(e)
	clear(a)
	if !slices.Equal(b, want) {
		t.Errorf("the records became %s", text(b))
	}
	for _, l := range [][]api.Record{b, {want[1], want[0]}, {want[0], want[0]}, {want[0], record("uid", "1")}} {
		before := slices.Clone(l)
		fit.Merge(h, l)
		if !slices.Equal(l, before) {
			t.Errorf("Merge changed its argument to %s", text(l))
		}
	}
	// Only the records up to the length of a slice count.
	checkMerge(t, ustar.Header{Type: '1', Linkname: "t", Mode: 3}, want[1:], api.Entry{Kind: api.Hardlink, Path: x(101), Target: "t", Mode: 3}, api.OK)
	checkMerge(t, ustar.Header{Type: '1', Name: "p", Mode: 3}, want[:1], api.Entry{Kind: api.Hardlink, Path: "p", Target: x(102), Mode: 3}, api.OK)
	checkMerge(t, ustar.Header{Type: '1', Name: "p", Linkname: "t"}, want[:0], api.Entry{Kind: api.Hardlink, Path: "p", Target: "t"}, api.OK)
}

// P10.3: Merge inverts Plan.
func TestMergeOfPlans(t *testing.T) {
	for _, e := range entries() {
		checkEntry(t, e, api.OK)
		h, l, _ := fit.Plan(e)
		checkMerge(t, h, l, e, api.OK)
	}
}

// P10.3: headers that no entry has.
func TestMergeOfWrongHeaders(t *testing.T) {
	for c := range 256 {
		if strings.IndexByte("0125", byte(c)) < 0 {
			h := ustar.Header{Type: byte(c), Name: "a"}
			checkNoEntry(t, h)
			h.Linkname = "b"
			checkNoEntry(t, h)
			h.Name = ""
			checkNoEntry(t, h, record("path", x(101)))
		}
	}
	checkNoEntry(t, ustar.Header{})
	for _, p := range badPaths {
		checkNoEntry(t, ustar.Header{Type: '0', Name: p})
		checkNoEntry(t, ustar.Header{Type: '0', Name: p, Prefix: "p"})
		checkNoEntry(t, ustar.Header{Type: '0', Name: x(100), Prefix: "p/" + p})
		checkNoEntry(t, ustar.Header{Type: '1', Name: "a", Linkname: p})
		checkNoEntry(t, ustar.Header{Type: '2', Name: p, Linkname: "t"})
		checkNoEntry(t, ustar.Header{Type: '0', Name: p}, record("size", "8589934592"))
	}
	// A path that is not split as Split does it, or that has to be in a record.
	for _, h := range []ustar.Header{
		{Prefix: "a", Name: "b"}, {Prefix: "a"}, {Prefix: "a", Name: x(98)}, {Prefix: x(98), Name: "a"}, {Prefix: x(100)},
		{Prefix: "a/b", Name: x(98)}, {Prefix: "a/b", Name: x(97)}, {Prefix: x(54) + "/" + x(98), Name: "c"}, {Prefix: "a", Name: x(101)}, {Prefix: x(156), Name: "a"}, {Prefix: x(156), Name: x(100)},
		{Name: x(101)}, {Name: "a/" + x(99)}, {Name: x(155) + "/a"}, {Prefix: "a/", Name: x(100)}, {Prefix: "/a", Name: x(100)}, {Prefix: "a", Name: "/" + x(99)}, {Prefix: "a", Name: x(99) + "/"}, {Prefix: "/", Name: x(100)}, {Prefix: "..", Name: x(100)},
	} {
		for _, c := range []byte("05") {
			h.Type, h.Linkname = c, ""
			checkNoEntry(t, h)
		}
		for _, c := range []byte("12") {
			h.Type, h.Linkname = c, "t"
			checkNoEntry(t, h)
		}
	}
	for _, n := range badModes {
		checkNoEntry(t, ustar.Header{Type: '0', Name: "a", Mode: n})
		checkNoEntry(t, ustar.Header{Type: '1', Name: "a", Linkname: "b", Mode: n})
		checkNoEntry(t, ustar.Header{Type: '0', Name: "a", Mode: n}, record("size", "8589934592"))
	}
	for _, n := range slices.Concat(headerSizes[1:], recordSizes, badSizes) {
		checkNoEntry(t, ustar.Header{Type: '5', Name: "a", Size: n})
		checkNoEntry(t, ustar.Header{Type: '1', Name: "a", Linkname: "b", Size: n})
		checkNoEntry(t, ustar.Header{Type: '2', Name: "a", Linkname: "b", Size: n})
		if n > maxOctal || n < 0 {
			checkNoEntry(t, ustar.Header{Type: '0', Name: "a", Size: n})
		}
	}
	for _, h := range []ustar.Header{{Type: '0', Name: "a", Linkname: "b"}, {Type: '5', Name: "a", Linkname: "b"}, {Type: '1', Name: "a"}, {Type: '2', Name: "a"}, {Type: '2', Name: "a", Linkname: "b", Mode: 511}, {Type: '1', Name: "a", Linkname: "/"}, {Type: '2', Name: "a", Linkname: x(101)}, {Type: '1', Name: "a", Linkname: x(101)}, {Type: '2', Name: "a", Linkname: "\x00"}} {
		checkNoEntry(t, h)
	}
}

// P10.3: records that are unknown, invalid, unnecessary, repeated, in the wrong order or besides a value in the header.
func TestMergeOfWrongRecords(t *testing.T) {
	dir, file := ustar.Header{Type: '5', Name: "d"}, ustar.Header{Type: '0', Name: "f"}
	symlink, hardlink := ustar.Header{Type: '2', Name: "s", Linkname: "t"}, ustar.Header{Type: '1', Name: "h", Linkname: "t"}
	for _, h := range []ustar.Header{dir, file, symlink, hardlink} {
		checkNoEntry(t, h, api.Record{})
		for _, key := range append(paxrec.Keys(), "", "uid", "mtime", "Path", "paths", "path ", "linkname", "name", "mode", "comment", "path\x00", "linkpathpathsize") {
			for _, value := range []string{"", "a", "0", "1", h.Name, h.Linkname, x(100), "\x00", x(65537), x(1 << 17)} {
				checkNoEntry(t, h, record(key, value))
			}
		}
	}
	// The header has the value, too, or a value that is not zero.
	size := record("size", "8589934592")
	path, linkpath := record("path", x(101)), record("linkpath", x(101))
	checkNoEntry(t, dir, path)
	checkNoEntry(t, ustar.Header{Type: '5', Name: x(101)}, path)
	checkNoEntry(t, ustar.Header{Type: '5', Name: x(100)}, path)
	checkNoEntry(t, ustar.Header{Type: '5', Prefix: "p"}, path)
	checkNoEntry(t, ustar.Header{Type: '5', Prefix: "p", Name: x(100)}, record("path", "p/"+x(101)))
	checkNoEntry(t, symlink, linkpath)
	checkNoEntry(t, hardlink, linkpath)
	checkNoEntry(t, ustar.Header{Type: '2', Name: "s", Linkname: x(100)}, linkpath)
	checkNoEntry(t, ustar.Header{Type: '2', Name: "s", Linkname: x(101)}, linkpath)
	for _, n := range []int64{1, maxOctal, maxOctal + 1, -1} {
		checkNoEntry(t, ustar.Header{Type: '0', Name: "f", Size: n}, size)
	}
	// The value fits the header.
	for p, prefix := range longPaths {
		checkNoEntry(t, ustar.Header{Type: '5'}, record("path", p))
		checkNoEntry(t, ustar.Header{Type: '5', Prefix: prefix, Name: p[len(prefix)+1:]}, record("path", p))
	}
	for _, s := range slices.Concat(shortPaths, badPaths, longTexts) {
		checkNoEntry(t, ustar.Header{Type: '5'}, record("path", s))
		checkNoEntry(t, ustar.Header{Type: '5', Name: s}, record("path", s))
		checkNoEntry(t, ustar.Header{Type: '1', Name: "h"}, record("linkpath", s))
	}
	for _, s := range []string{"", "t", "/", x(100), strings.Repeat("/", 100), x(101) + "\x00", strings.Repeat("\x00", 101), x(65537)} {
		checkNoEntry(t, ustar.Header{Type: '2', Name: "s"}, record("linkpath", s))
		checkNoEntry(t, ustar.Header{Type: '2', Name: "s", Linkname: s}, record("linkpath", s))
	}
	for _, n := range headerSizes {
		checkNoEntry(t, file, record("size", fmt.Sprint(n)))
		checkNoEntry(t, ustar.Header{Type: '0', Name: "f", Size: n}, record("size", fmt.Sprint(n)))
	}
	// Records of other kinds.
	for _, h := range []ustar.Header{dir, symlink, hardlink, {Type: '1', Name: "h"}, {Type: '2', Name: "s"}} {
		checkNoEntry(t, h, size)
	}
	for _, h := range []ustar.Header{dir, file} {
		checkNoEntry(t, h, linkpath)
	}
	checkNoEntry(t, ustar.Header{Type: 'x', Name: "pax"}, size)
	checkNoEntry(t, ustar.Header{Type: '2', Name: "s", Mode: 7}, linkpath)
	checkNoEntry(t, ustar.Header{Type: '1', Name: "h", Size: 1}, linkpath)
	// Repeated records, wrong orders, and others besides the right ones.
	checkNoEntry(t, ustar.Header{Type: '5'}, path, path)
	checkNoEntry(t, ustar.Header{Type: '5'}, record("path", x(102)), path)
	checkNoEntry(t, ustar.Header{Type: '0'}, size, path)
	checkNoEntry(t, ustar.Header{Type: '2'}, path, linkpath)
	checkNoEntry(t, ustar.Header{Type: '2'}, linkpath, linkpath, path)
	checkNoEntry(t, ustar.Header{Type: '2'}, linkpath, path, path)
	checkNoEntry(t, ustar.Header{Type: '2'}, linkpath, path, size)
	checkNoEntry(t, ustar.Header{Type: '0'}, linkpath, path, size)
	checkNoEntry(t, ustar.Header{Type: '5'}, record("comment", "x"), path)
	checkNoEntry(t, ustar.Header{Type: '5'}, path, record("uid", "0"))
	checkNoEntry(t, file, record("size", "8589934593"), size)
	checkNoEntry(t, file, slices.Repeat([]api.Record{size}, 100000)...)
}

// P10.3: numbers that are no sizes, or that are not written as in a record.
func TestMergeOfWrongSizes(t *testing.T) {
	h := ustar.Header{Type: '0', Name: "f"}
	for _, s := range []string{"", " ", "0", "00", "-0", "+0", "x", "-1", "-8589934592", "+8589934592", "08589934592", "008589934592", "8589934592 ", " 8589934592", "8589934592\n", "8589934592\x00", "8_589_934_592", "8589934592.0", "8589934592x", "0x200000000", "0o100000000000", "100000000000o", "1e10", "1e12", "\uff18589934592", "1099511627777", "1099511627778", "9223372036854775807", "9223372036854775808", "-9223372036854775808", "-9223372036854775809", "18446744073709551616", "18446744082299486208", "340282366920938463463374607431768211456", strings.Repeat("9", 1000), strings.Repeat("0", 1000) + "8589934592", strings.Repeat("8", 70000)} {
		checkNoEntry(t, h, record("size", s))
		checkNoEntry(t, ustar.Header{Type: '0'}, record("path", x(101)), record("size", s))
	}
	for _, n := range recordSizes {
		s := fmt.Sprint(n)
		checkMerge(t, h, []api.Record{record("size", s)}, api.Entry{Kind: api.File, Path: "f", Size: n}, api.OK)
		for _, other := range []string{"0" + s, "+" + s, "-" + s, s + " ", " " + s, s + "0000", s + "x"} {
			checkNoEntry(t, h, record("size", other))
		}
	}
}

// change returns headers that differ from h in one field.
func change(h ustar.Header) []ustar.Header {
	var l []ustar.Header
	add := func(set func(h *ustar.Header)) {
		other := h
		set(&other)
		l = append(l, other)
	}
	for _, c := range []byte("0125x3\x00") {
		add(func(h *ustar.Header) { h.Type = c })
	}
	for _, s := range []string{"", "a", "/", x(98), x(99), x(100), x(101), x(155), x(156), "\x00", h.Name, h.Prefix, h.Linkname, h.Name + "a", h.Prefix + "a", h.Name + "/", "a/" + h.Name, "a/" + h.Prefix, h.Prefix + "/" + h.Name} {
		add(func(h *ustar.Header) { h.Name = s })
		add(func(h *ustar.Header) { h.Prefix = s })
		add(func(h *ustar.Header) { h.Linkname = s })
		if i := strings.IndexByte(h.Name, '/'); i >= 0 {
			add(func(h *ustar.Header) { h.Prefix, h.Name = h.Name[:i], h.Name[i+1:] })
		}
		if i := strings.LastIndexByte(h.Prefix, '/'); i >= 0 {
			add(func(h *ustar.Header) { h.Prefix, h.Name = h.Prefix[:i], h.Prefix[i+1:]+"/"+h.Name })
		}
	}
	for _, n := range []int{0, 1, 4095, 4096, -1} {
		add(func(h *ustar.Header) { h.Mode = n })
	}
	for _, n := range []int64{0, 1, maxOctal, maxOctal + 1, maxSize, -1, h.Size + 1} {
		add(func(h *ustar.Header) { h.Size = n })
	}
	return l
}

// P10.3: plans with one other field, with a record more or less, or with another record; many of them are plans, too.
func TestMergeOfChangedPlans(t *testing.T) {
	more := []api.Record{record("linkpath", "a"), record("linkpath", x(101)), record("path", "a"), record("path", x(101)), record("size", "0"), record("size", "8589934592"), record("uid", "0")}
	accepted, rejected := 0, 0
	compare := func(h ustar.Header, l []api.Record) {
		t.Helper()
		if compareMerge(t, h, l) {
			accepted++
		} else {
			rejected++
		}
	}
	for _, e := range entries() {
		if len(e.Path)+len(e.Target) > 1000 {
			continue
		}
		h, l := plan(e)
		for _, other := range change(h) {
			compare(other, l)
			compare(other, nil)
		}
		for _, r := range more {
			compare(h, []api.Record{r})
			for i := range len(l) + 1 {
				compare(h, slices.Insert(slices.Clone(l), i, r))
			}
			for i := range l {
				compare(h, slices.Replace(slices.Clone(l), i, i+1, r))
				compare(h, slices.Replace(slices.Clone(l), i, i+1, record(r.Key, l[i].Value)))
				compare(h, slices.Replace(slices.Clone(l), i, i+1, record(l[i].Key, r.Value)))
			}
		}
		for i := range l {
			compare(h, slices.Delete(slices.Clone(l), i, i+1))
			compare(h, slices.Insert(slices.Clone(l), i, l[i]))
		}
		reversed := slices.Clone(l)
		slices.Reverse(reversed)
		compare(h, reversed)
	}
	if accepted < 5000 || rejected < 5000 {
		t.Errorf("%d plans are accepted, %d rejected", accepted, rejected)
	}
}

// P10.3: random headers and records.
func TestMergeOfRandomPlans(t *testing.T) {
	random := rand.New(rand.NewSource(10))
	texts := []string{"", "", "", "", "a", "a", "a/b", "/", x(100), x(101), "a/" + x(100), x(155), x(156), x(155) + "/" + x(100), "8589934592", "1", "\x00"}
	one := func(l []string) string { return l[random.Intn(len(l))] }
	accepted := 0
	for range 200000 {
		h := ustar.Header{Type: "01250125x"[random.Intn(9)], Name: one(texts), Prefix: one(texts), Linkname: one(texts)}
		if random.Intn(4) == 0 {
			h.Mode = []int{1, 4095, 4096, -1}[random.Intn(4)]
		}
		if random.Intn(4) == 0 {
			h.Size = []int64{1, maxOctal, maxOctal + 1, -1}[random.Intn(4)]
		}
		var l []api.Record
		for _, key := range []string{"linkpath", "path", "size"} {
			if random.Intn(3) == 0 {
				l = append(l, record(key, one(texts)))
			}
		}
		if compareMerge(t, h, l) {
			accepted++
		}
	}
	if accepted < 1000 {
		t.Errorf("only %d plans are accepted", accepted)
	}
}

// P10.4: different entries have different plans, with valid headers and valid records.
func TestPlanIsInjective(t *testing.T) {
	type key struct {
		h ustar.Header
		l string
	}
	plans := map[key]api.Entry{}
	for _, e := range entries() {
		h, l, err := fit.Plan(e)
		if err != api.OK {
			t.Fatalf("Plan(%s) = %v", text(e), err)
		}
		k := key{h, fmt.Sprintf("%q", l)}
		if other, ok := plans[k]; ok && other != e {
			t.Fatalf("%s and %s have the same plan", text(e), text(other))
		}
		plans[k] = e
		if err := ustar.Check(h); err != api.OK {
			t.Errorf("the header of %s has the error %v", text(e), err)
		}
		b, err := paxrec.Format(l...)
		if err != api.OK || len(b) > api.MaxRecords {
			t.Errorf("the records of %s have %d bytes and the error %v", text(e), len(b), err)
		}
	}
	if len(plans) < 500 {
		t.Errorf("only %d plans", len(plans))
	}
}

// P1: no call panics, whatever its arguments.
func TestNoPanic(t *testing.T) {
	texts := []string{"", "\x00", "\xff", "/", "a", x(101), strings.Repeat("/", 1000), x(70000)}
	for _, kind := range slices.Concat(kinds, noKinds) {
		for i, s := range texts {
			for _, n := range []int64{math.MinInt64, -1, 0, 1, maxSize, math.MaxInt64} {
				e := api.Entry{Kind: kind, Path: s, Mode: int(n), Target: texts[(i+3)%len(texts)], Size: n}
				checkEntry(t, e, check(e))
				h := ustar.Header{Type: byte(kind), Name: s, Prefix: s, Linkname: s, Mode: int(n), Size: n}
				fit.Merge(h, nil)
				fit.Merge(h, []api.Record{record(s, s), record("path", s), record("linkpath", s), record("size", s), record("size", fmt.Sprint(n))})
			}
		}
	}
}
