package grammar_test

import (
	"fmt"
	"math"
	"math/rand"
	"runtime"
	"slices"
	"strconv"
	"strings"
	"sync"
	"testing"

	"paxtar/api"
	"paxtar/archive"
	"paxtar/grammar"
	"paxtar/tree"
)

const (
	maxOctal   = 8589934591
	maxSize    = 1099511627776
	maxRecords = 262144
)

// long is a path that does not fit a header.
var long = x(101)

// end is the trailer.
var end = zeros(1024)

// x returns a string of n bytes without a slash.
func x(n int) string { return strings.Repeat("x", n) }

// zeros returns n zero bytes.
func zeros(n int) string { return strings.Repeat("\x00", n) }

func dir(path string, mode int) api.Node { return api.Node{Kind: api.Dir, Path: path, Mode: mode} }

func file(path string, mode, class int, data string) api.Node {
	return api.Node{Kind: api.File, Path: path, Mode: mode, Data: []byte(data), Class: class}
}

func symlink(path, target string) api.Node {
	return api.Node{Kind: api.Symlink, Path: path, Target: target}
}

// seal sets the checksum of a header block.
func seal(block string) string {
	b := []byte(block)
	copy(b[148:], "        ")
	sum := 0
	for _, c := range b {
		sum += int(c)
	}
	copy(b[148:], fmt.Sprintf("%06o\x00 ", sum))
	return string(b)
}

// with returns a stream with other bytes at an offset.
func with(stream string, at int, s string) string {
	return stream[:at] + s + stream[at+len(s):]
}

// header returns a header block, from the layout of chapter 7.
func header(kind, prefix, name, link string, mode int, size int64) string {
	b := make([]byte, 512)
	copy(b, name)
	copy(b[100:], fmt.Sprintf("%07o\x000000000\x000000000\x00%011o\x0000000000000\x00", mode, size))
	copy(b[156:], kind)
	copy(b[157:], link)
	copy(b[257:], "ustar\x0000")
	copy(b[329:], "0000000\x000000000\x00")
	copy(b[345:], prefix)
	return seal(string(b))
}

// dirHeader and the following functions return the headers of members that need no records.
func dirHeader(path string, mode int) string { return header("5", "", path, "", mode, 0) }

func fileHeader(path string, mode, size int) string {
	return header("0", "", path, "", mode, int64(size))
}

func symlinkHeader(path, target string) string { return header("2", "", path, target, 0, 0) }

func linkHeader(path string, mode int, target string) string {
	return header("1", "", path, target, mode, 0)
}

// padded returns the given bytes and as many zero bytes as make whole blocks of them.
func padded(s string) string { return s + zeros((512-len(s)%512)%512) }

// line returns an encoded record: the first length that is consistent.
func line(key, value string) string {
	rest := " " + key + "=" + value + "\n"
	for n := len(rest); ; n++ {
		if s := strconv.Itoa(n); len(s)+len(rest) == n {
			return s + rest
		}
	}
}

// extended returns the blocks of records, whatever they contain.
func extended(records string) string {
	return header("x", "", "pax", "", 0, int64(len(records))) + padded(records)
}

// longDir returns the member of a directory whose path needs a record.
func longDir(path string) string { return extended(line("path", path)) + dirHeader("", 1) }

// split is the placement of a path in a header; the last result is false if it needs a record.
func split(path string) (string, string, bool) {
	if len(path) <= 100 {
		return "", path, true
	}
	for i := range len(path) {
		if path[i] == '/' && i >= 1 && i <= 155 && len(path)-i-1 >= 1 && len(path)-i-1 <= 100 {
			return path[:i], path[i+1:], true
		}
	}
	return "", "", false
}

// entryBlocks returns the header blocks of a valid entry, from the chapters 7 to 12.
func entryBlocks(e api.Entry) string {
	records, link, size := "", e.Target, e.Size
	if len(link) > 100 {
		records, link = line("linkpath", link), ""
	}
	prefix, name, ok := split(e.Path)
	if !ok {
		records += line("path", e.Path)
	}
	if size > maxOctal {
		records, size = records+line("size", strconv.FormatInt(size, 10)), 0
	}
	last := header([]string{"5", "0", "2", "1"}[e.Kind], prefix, name, link, e.Mode, size)
	if records == "" {
		return last
	}
	return extended(records) + last
}

// stream returns the canonical archive of a valid tree in any order, from the chapters 14 and 17. It looks through the whole list for each path.
func stream(l []api.Node) string {
	var paths []string
	for _, n := range l {
		paths = append(paths, n.Path)
	}
	slices.Sort(paths)
	var s strings.Builder
	for _, p := range paths {
		n := l[slices.IndexFunc(l, func(n api.Node) bool { return n.Path == p })]
		least := p
		for _, m := range l {
			if n.Class > 0 && m.Class == n.Class && m.Path < least {
				least = m.Path
			}
		}
		if least != p {
			s.WriteString(entryBlocks(api.Entry{Kind: api.Hardlink, Path: p, Mode: n.Mode, Target: least}))
			continue
		}
		s.WriteString(entryBlocks(api.Entry{Kind: n.Kind, Path: p, Mode: n.Mode, Target: n.Target, Size: int64(len(n.Data))}))
		s.WriteString(padded(string(n.Data)))
	}
	return s.String() + end
}

// text shows a node completely, and nil and empty data alike.
func text(n api.Node) string {
	return fmt.Sprintf("%d %q %d %q %q %d", n.Kind, n.Path, n.Mode, n.Target, n.Data, n.Class)
}

func texts(l []api.Node) []string {
	var s []string
	for _, n := range l {
		s = append(s, text(n))
	}
	return s
}

func short(l []api.Node) string {
	s := fmt.Sprint(texts(l))
	if len(s) > 500 {
		return s[:500] + "…"
	}
	return s
}

// A head is what a header block contains.
type head struct {
	kind, prefix, name, link string
	mode, size               int64
}

// A part is a member, as the model reads it.
type part struct {
	main    head
	records map[string]string
	headers string // all the blocks before the data
	data    string
	padding string
	entry   api.Entry
}

// A model decides by the chapter's rules, from the layouts of the chapters 7 to 12 and without the packages of the layers.
type model struct {
	body  string
	parts []part
}

// modelViolation returns the name of the first violated rule.
func modelViolation(b string) string {
	switch {
	case len(b) == 0 || len(b)%512 != 0:
		return "blocks"
	case !strings.HasSuffix(b, end):
		return "trailer"
	}
	m := &model{body: strings.TrimSuffix(b, end)}
	for _, rule := range []struct {
		name  string
		holds func() bool
	}{{"headers", m.headers}, {"padding", m.padding}, {"entries", m.entries}, {"order", m.order}, {"parents", m.parents}, {"links", m.links}} {
		if !rule.holds() {
			return rule.name
		}
	}
	return ""
}

// headers reads the parts of the body.
func (m *model) headers() bool {
	for at := 0; at < len(m.body); {
		p, n, ok := readPart(m.body[at:])
		if !ok {
			return false
		}
		m.parts = append(m.parts, p)
		at += n
	}
	return true
}

func (m *model) padding() bool {
	var all strings.Builder
	for _, p := range m.parts {
		all.WriteString(p.padding)
	}
	return strings.Trim(all.String(), "\x00") == ""
}

func (m *model) entries() bool {
	for i, p := range m.parts {
		e, ok := p.asEntry()
		// Both the entry and its placement must be right.
		if !ok || !validEntry(e) || entryBlocks(e) != p.headers {
			return false
		}
		m.parts[i].entry = e
	}
	return true
}

func (m *model) order() bool {
	paths := m.paths(func(api.Entry) bool { return true })
	return slices.IsSorted(paths) && len(slices.Compact(slices.Clone(paths))) == len(paths)
}

func (m *model) parents() bool {
	directories := m.paths(func(e api.Entry) bool { return e.Kind == api.Dir })
	for _, p := range m.parts {
		if i := strings.LastIndex(p.entry.Path, "/"); i >= 0 && !slices.Contains(directories, p.entry.Path[:i]) {
			return false
		}
	}
	return true
}

func (m *model) links() bool {
	for _, p := range m.parts {
		if e := p.entry; e.Kind == api.Hardlink && len(m.paths(func(f api.Entry) bool {
			return f.Kind == api.File && f.Path == e.Target && f.Path < e.Path && f.Mode == e.Mode
		})) != 1 {
			return false
		}
	}
	return true
}

func (m *model) paths(keep func(e api.Entry) bool) []string {
	var l []string
	for _, p := range m.parts {
		if keep(p.entry) {
			l = append(l, p.entry.Path)
		}
	}
	return l
}

// readPart reads the part at the start of a body, and returns its length.
func readPart(s string) (part, int, bool) {
	h, ok := readHead(s)
	p := part{main: h}
	at := 512
	if ok && h.kind == "x" {
		size := int(h.size)
		at += (size + 511) / 512 * 512
		if size < 1 || size > maxRecords || s[:512] != header("x", "", "pax", "", 0, h.size) || at > len(s) {
			return part{}, 0, false
		}
		p.padding = s[512+size : at]
		if p.records, ok = readRecords(s[512 : 512+size]); !ok {
			return part{}, 0, false
		}
		p.main, ok = readHead(s[at:])
		ok = ok && p.main.kind != "x"
		at += 512
	}
	if !ok {
		return part{}, 0, false
	}
	p.headers = s[:at]
	if p.main.kind == "0" {
		size := p.main.size
		if v, ok := p.records["size"]; ok {
			size, _ = strconv.ParseInt(v, 10, 64)
		}
		next := int64(at) + (size+511)/512*512
		if next > int64(len(s)) {
			return part{}, 0, false
		}
		p.data, p.padding = s[at:at+int(size)], p.padding+s[at+int(size):next]
		at = int(next)
	}
	return p, at, true
}

// readHead reads the header block at the start of a string: the only one with these fields.
func readHead(s string) (head, bool) {
	if len(s) < 512 {
		return head{}, false
	}
	b := s[:512]
	field := func(at, width int) string { return strings.TrimRight(b[at:at+width], "\x00") }
	h := head{kind: b[156:157], prefix: field(345, 155), name: field(0, 100), link: field(157, 100)}
	var err, other error
	h.mode, err = strconv.ParseInt(b[100:107], 8, 64)
	h.size, other = strconv.ParseInt(b[124:135], 8, 64)
	if err != nil || other != nil || h.mode < 0 || h.mode > 4095 || h.size < 0 || strings.Contains(h.prefix+h.name+h.link, "\x00") {
		return head{}, false
	}
	return h, strings.Contains("0125x", h.kind) && header(h.kind, h.prefix, h.name, h.link, int(h.mode), h.size) == b
}

// readRecords reads records with ascending keys, of which each has its only encoding.
func readRecords(s string) (map[string]string, bool) {
	l := map[string]string{}
	for last := ""; s != ""; {
		digits, rest, _ := strings.Cut(s, " ")
		n, err := strconv.Atoi(digits)
		if err != nil || n > len(s) || n-len(digits)-2 < 0 {
			return nil, false
		}
		key, value, _ := strings.Cut(rest[:n-len(digits)-2], "=")
		if s[:n] != line(key, value) || key <= last || !validRecord(key, value) {
			return nil, false
		}
		l[key], last, s = value, key, s[n:]
	}
	return l, true
}

func validRecord(key, value string) bool {
	if key == "size" {
		n, err := strconv.ParseInt(value, 10, 64)
		return err == nil && 0 <= n && n <= maxSize && strconv.FormatInt(n, 10) == value
	}
	return (key == "path" || key == "linkpath") && value != "" && len(value) <= 65536 && !strings.Contains(value, "\x00")
}

// asEntry returns the entry that a part describes.
func (p part) asEntry() (api.Entry, bool) {
	e := api.Entry{Kind: strings.Index("5021", p.main.kind), Path: p.main.name, Mode: int(p.main.mode), Target: p.main.link, Size: p.main.size}
	if p.main.prefix != "" {
		e.Path = p.main.prefix + "/" + e.Path
	}
	if v, ok := p.records["path"]; ok {
		e.Path = v
	}
	if v, ok := p.records["linkpath"]; ok {
		e.Target = v
	}
	if v, ok := p.records["size"]; ok {
		e.Size, _ = strconv.ParseInt(v, 10, 64)
	}
	return e, e.Kind >= 0
}

func validPath(p string) bool {
	for _, c := range strings.Split(p, "/") {
		if c == "" || c == "." || c == ".." {
			return false
		}
	}
	return len(p) <= 65536 && !strings.Contains(p, "\x00")
}

func validEntry(e api.Entry) bool {
	switch {
	case !validPath(e.Path) || e.Size != 0 && e.Kind != api.File:
		return false
	case e.Kind == api.Symlink:
		return e.Mode == 0 && e.Target != ""
	case e.Kind == api.Hardlink:
		return validPath(e.Target)
	}
	return e.Target == ""
}

// wantViolation checks the results for a byte slice that violates a rule, and those of archive.Decode.
func wantViolation(t *testing.T, b, want string) {
	t.Helper()
	argument := []byte(b)
	if got := grammar.Violation(argument); got != want {
		t.Errorf("Violation of %d bytes = %q, want %q", len(b), got, want)
	}
	if l, ok := grammar.Match(argument); ok || len(l) != 0 {
		t.Errorf("Match of %d bytes = %s, %v, but they violate %q", len(b), short(l), ok, want)
	}
	if string(argument) != b {
		t.Error("the argument has been modified")
	}
	if got := modelViolation(b); got != want {
		t.Errorf("the model says %q, not %q", got, want)
	}
	if _, _, err := archive.Decode(argument); err == api.OK {
		t.Error("archive.Decode accepts it")
	}
}

// wantMatch checks the results for the archive of a tree.
func wantMatch(t *testing.T, b string, l []api.Node) {
	t.Helper()
	argument := []byte(b)
	if got := grammar.Violation(argument); got != "" {
		t.Errorf("Violation of %d bytes = %q", len(b), got)
	}
	got, ok := grammar.Match(argument)
	if want := tree.Canon(l); !ok || !slices.Equal(texts(got), texts(want)) {
		t.Errorf("Match of %d bytes = %s, %v, want %s", len(b), short(got), ok, short(want))
	}
	if string(argument) != b {
		t.Error("the argument has been modified")
	}
	if got := modelViolation(b); got != "" {
		t.Errorf("the model says %q", got)
	}
	if encoded, err := archive.Encode(got); string(encoded) != b || err != api.OK {
		t.Errorf("the archive of the tree has %d bytes, not %d, %v", len(encoded), len(b), err)
	}
}

// wantBody checks which rule a stream with the given body violates, alone, and before and after other members. The paths of these are less than those that start with a letter, or greater.
func wantBody(t *testing.T, body, want string) {
	t.Helper()
	before := dirHeader("!", 1) + fileHeader("!/f", 2, 600) + padded(x(600)) + extended(line("linkpath", long)) + symlinkHeader("!s", "") + fileHeader("!t", 3, 0)
	after := dirHeader("~", 1) + fileHeader("~/f", 2, 600) + padded(x(600)) + linkHeader("~h", 2, "~/f") + longDir("~"+long)
	for _, b := range []string{body, before + body, body + after, before + body + after} {
		wantViolation(t, b+end, want)
	}
}

// sample returns a tree with nodes of all kinds, with and without records, and in no order.
func sample() []api.Node {
	return []api.Node{
		file("z", 0o644, 3, "shared\n"), dir("d", 0o755), symlink("s", "d/f"), file("d/f", 0o644, 3, "shared\n"), symlink(long, "/"+long), file("d/e", 1, 0, ""),
		file("d/"+x(99), 0o600, 8, x(600)), file("d/"+x(200), 0o600, 8, x(600)), file("d.x", 4095, 7, zeros(512)), dir("d/d", 0), symlink("d/d/s", ".."), file("\xff", 0o644, 3, "shared\n"), file("a", 0, 0, "\x00"),
	}
}

// The examples of the chapter, and of DOC.md for this layer.
func TestExamples(t *testing.T) {
	wantMatch(t, zeros(1024), nil)
	wantViolation(t, zeros(512), "trailer")
	wantViolation(t, zeros(1025), "blocks")
	wantMatch(t, fileHeader("a", 1, 1)+padded("x")+linkHeader("b", 1, "a")+end, []api.Node{file("b", 1, 7, "x"), file("a", 1, 7, "x")})
	wantViolation(t, fileHeader("a/b", 1, 0)+end, "parents")
	wantViolation(t, fileHeader("a/b", 1, 0)+dirHeader("a", 1)+end, "order")
}

// P18.2: streams that are written out, and the trees that they denote.
func TestKnownArchives(t *testing.T) {
	data := strings.Repeat("0123456789", 60)
	wantMatch(t, dirHeader("d", 0o755)+end, []api.Node{dir("d", 0o755)})
	wantMatch(t, symlinkHeader("s", "../t")+end, []api.Node{symlink("s", "../t")})
	wantMatch(t, fileHeader("f", 4095, 0)+end, []api.Node{file("f", 4095, 0, "")})
	for _, n := range []int{1, 2, 511, 512, 513, 600} {
		wantMatch(t, fileHeader("f", 0o644, n)+padded(data[:n])+end, []api.Node{file("f", 0o644, 0, data[:n])})
		wantMatch(t, fileHeader("f", 0o644, n)+padded(data[:n])+dirHeader("g", 1)+end, []api.Node{file("f", 0o644, 0, data[:n]), dir("g", 1)})
	}
	// The contents of a file may look like a part of an archive.
	for _, s := range []string{zeros(1), zeros(511), zeros(512), zeros(1000), zeros(2048), dirHeader("d", 1), stream([]api.Node{file("g", 1, 0, "data")}), x(512) + end} {
		wantMatch(t, fileHeader("f", 1, len(s))+padded(s)+end, []api.Node{file("f", 1, 0, s)})
		wantMatch(t, fileHeader("f", 1, len(s))+padded(s)+dirHeader("g", 1)+end, []api.Node{file("f", 1, 0, s), dir("g", 1)})
	}
	// Records precede the header of a member.
	path := x(155) + "/" + x(100)
	wantMatch(t, extended("111 path="+long+"\n")+header("5", "", "", "", 7, 0)+end, []api.Node{dir(long, 7)})
	wantMatch(t, extended("115 linkpath="+long+"\n111 path="+long+"\n")+header("2", "", "", "", 0, 0)+end, []api.Node{symlink(long, long)})
	wantMatch(t, extended(line("path", x(155)))+header("5", "", "", "", 2, 0)+header("0", x(155), x(100), "", 1, 1)+padded("x")+end, []api.Node{dir(x(155), 2), file(path, 1, 0, "x")})
	wantMatch(t, extended("111 path="+long+"\n")+header("0", "", "", "", 5, 4)+padded("data")+extended("115 linkpath="+long+"\n")+linkHeader("z", 5, "")+end, []api.Node{file(long, 5, 1, "data"), file("z", 5, 1, "data")})
	wantMatch(t, stream(sample()), sample())
}

// P18.2: hard links belong to the class of their file, and the classes of the others are 0.
func TestClasses(t *testing.T) {
	b := fileHeader("a", 1, 1) + padded("x") + fileHeader("b", 1, 1) + padded("x") + fileHeader("c", 2, 0) + linkHeader("d", 2, "c") + linkHeader("e", 1, "a") + fileHeader("f", 1, 3) + padded("abc") + linkHeader("g", 1, "a") + linkHeader("h", 1, "f") + end
	want := []string{
		text(file("a", 1, 1, "x")), text(file("b", 1, 0, "x")), text(file("c", 2, 2, "")), text(file("d", 2, 2, "")), text(file("e", 1, 1, "x")), text(file("f", 1, 3, "abc")), text(file("g", 1, 1, "x")), text(file("h", 1, 3, "abc")),
	}
	if l, ok := grammar.Match([]byte(b)); !ok || !slices.Equal(texts(l), want) {
		t.Error(short(l), ok)
	}
}

// P18.1: the length precedes everything else.
func TestBlocks(t *testing.T) {
	wantViolation(t, "", "blocks")
	if s := grammar.Violation(nil); s != "blocks" {
		t.Error(s)
	}
	for _, c := range []string{"\x00", "x"} {
		for _, n := range []int{1, 2, 10, 511, 513, 1023, 1025, 1500, 1535, 1537, 2047, 2049, 5000} {
			wantViolation(t, strings.Repeat(c, n), "blocks")
		}
	}
	for _, b := range []string{end, stream(sample()), dirHeader("no/k", 1) + end, x(512) + end, x(512), dirHeader("d", 1)} {
		for _, n := range []int{1, 2, 100, 511} {
			wantViolation(t, b+zeros(n), "blocks")
			wantViolation(t, b+x(n), "blocks")
			wantViolation(t, b[n:], "blocks")
			wantViolation(t, b[:len(b)-n], "blocks")
		}
	}
}

// P18.1: the last two blocks.
func TestTrailer(t *testing.T) {
	for _, b := range []string{zeros(512), x(512), dirHeader("d", 1)} {
		wantViolation(t, b, "trailer")
	}
	for i := range 1024 {
		wantViolation(t, with(end, i, "\x01"), "trailer")
		wantViolation(t, dirHeader("d", 1)+with(end, i, "\xff"), "trailer")
	}
	for _, b := range []string{stream(sample()), stream(nil), dirHeader("no/k", 1) + end, x(512) + end} {
		wantViolation(t, b+x(512), "trailer")
		wantViolation(t, b+dirHeader("z", 1), "trailer")
		wantViolation(t, b+zeros(511)+"x", "trailer")
		wantViolation(t, b+x(512)+zeros(512), "trailer")
		wantViolation(t, b[:len(b)-512], "trailer")
		wantViolation(t, b[:len(b)-1024]+x(1024), "trailer")
	}
}

// P18.1: a block that is no header.
func TestHeaders(t *testing.T) {
	good := dirHeader("k", 1)
	wantBody(t, with(good, 0, "j"), "headers")
	wantBody(t, x(512), "headers")
	for _, i := range []int{0, 200, 511} {
		wantBody(t, with(zeros(512), i, "x"), "headers")
	}
	// The body contains no zero blocks but those of data.
	for _, b := range []string{zeros(512), zeros(1024), zeros(5120), zeros(512) + good, good + zeros(512), good + zeros(1024), good + zeros(512) + dirHeader("l", 1), good + end + dirHeader("l", 1)} {
		wantBody(t, b, "headers")
	}
	for _, kind := range []string{"3", "4", "6", "7", "g", "L", "\x00", "X"} {
		wantBody(t, header(kind, "", "k", "", 1, 0), "headers")
	}
	for _, b := range []string{with(good, 100, "0010000"), with(good, 100, "000644 "), with(good, 108, "0000001"), with(good, 116, "0000001"), with(good, 136, "00000000001"), with(good, 257, "ustar  \x00"), with(good, 265, "root"), with(good, 297, "root"), with(good, 329, "0000001"), with(good, 511, "x"), with(good, 2, "x"), with(good, 158, "x"), with(good, 346, "x")} {
		wantBody(t, seal(b), "headers")
	}
	// The other kinds have no data.
	for _, b := range []string{fileHeader("j", 1, 0), dirHeader("j", 1), symlinkHeader("j", "t"), fileHeader("i", 1, 0) + linkHeader("j", 1, "i"), header("5", "", "j", "", 1, 5), header("2", "", "j", "t", 0, 5), header("1", "", "j", "t", 0, 5)} {
		wantBody(t, b+padded("hello"), "headers")
	}
}

// P18.1: an extended header, its records and the main header.
func TestExtendedHeaders(t *testing.T) {
	record := line("path", long)
	last := dirHeader("", 1)
	blocks := padded(record)
	size := int64(len(record))
	wantMatch(t, header("x", "", "pax", "", 0, size)+blocks+last+end, []api.Node{dir(long, 1)})
	for _, h := range []string{header("x", "", "pax", "", 1, size), header("x", "", "PaxHeaders/k", "", 0, size), header("x", "", "pa", "", 0, size), header("x", "", "", "", 0, size), header("x", "a", "pax", "", 0, size), header("x", "", "pax", "t", 0, size), header("x", "", "pax", "", 0, size-1), header("x", "", "pax", "", 0, size+1), header("x", "", "pax", "", 0, 0), header("x", "", "pax", "", 0, 512), header("x", "", "pax", "", 0, 513), header("x", "", "pax", "", 0, maxOctal)} {
		wantBody(t, h+blocks+last, "headers")
	}
	// An extended header without records.
	wantBody(t, header("x", "", "pax", "", 0, 0)+dirHeader("k", 1), "headers")
	// The number of records is not bounded, but that of their bytes.
	wantBody(t, extended(zeros(maxRecords))+last, "headers")
	wantBody(t, extended(strings.Repeat(record, maxRecords/len(record)+1))+last, "headers")
	for _, records := range []string{
		"x", "\x00", record + "x", record + "\x00", record + record, record + line("linkpath", long), "0" + record, line("mtime", "1"), line("", "x"), line("Path", long), line("path", ""), line("path", "a\x00"), line("path", x(65537)), line("linkpath", x(65537)), line("size", "1099511627777"),
		line("size", "01"), line("size", "-1"), line("size", ""), line("size", "1x"), line("size", "99999999999999999999999999"), "10 path=a\n", "8 path=a\n", "9 path=ab", "9 path a\n", "9 path=a", "30 path=a\n", "path=a\n", " path=a\n", record + "30 size=8589934592\n",
	} {
		wantBody(t, extended(records)+last, "headers")
	}
	// The main header.
	for _, b := range []string{"", zeros(512), x(512), with(last, 1, "x"), header("7", "", "", "", 1, 0), extended(record), extended(record) + last} {
		wantViolation(t, extended(record)+b+end, "headers")
		wantViolation(t, dirHeader("k", 1)+extended(record)+b+end, "headers")
	}
	wantBody(t, extended(record)+header("x", "", "pax", "", 0, size), "headers")
	// All the blocks belong to the body, though the zero blocks after it might be some of them.
	for _, n := range []int{1, 500, 512, 513, 1024, maxRecords} {
		wantViolation(t, header("x", "", "pax", "", 0, int64(n))+end, "headers")
	}
	two := extended(line("path", x(600))) + last
	wantMatch(t, two+end, []api.Node{dir(x(600), 1)})
	for n := 512; n < len(two); n += 512 {
		wantViolation(t, two[:n]+end, "headers")
		wantViolation(t, dirHeader("k", 1)+two[:n]+end, "headers")
	}
}

// P18.1: the data of a file belong to the body, too.
func TestData(t *testing.T) {
	for _, c := range []struct{ size, blocks int }{{1, 1}, {511, 1}, {512, 1}, {513, 2}, {1024, 2}, {1025, 3}, {5000, 10}} {
		h := fileHeader("f", 1, c.size)
		for n := range c.blocks {
			wantViolation(t, h+zeros(512*n)+end, "headers")
			wantViolation(t, h+x(512*n)+end, "headers")
			wantViolation(t, dirHeader("d", 1)+h+zeros(512*n)+end, "headers")
		}
		wantMatch(t, h+zeros(512*c.blocks)+end, []api.Node{file("f", 1, 0, zeros(c.size))})
		wantViolation(t, h+zeros(512*c.blocks)+zeros(512)+end, "headers")
	}
	for _, size := range []int64{2000, 1 << 31, 1<<32 + 1, maxOctal} {
		wantViolation(t, header("0", "", "f", "", 1, size)+zeros(1024)+end, "headers")
	}
	for _, size := range []string{"2000", "4294967296", "8589934592", "1099511627775", "1099511627776"} {
		wantViolation(t, extended(line("size", size))+fileHeader("f", 1, 0)+zeros(1024)+end, "headers")
		wantViolation(t, extended(line("size", size))+fileHeader("f", 1, 3)+zeros(512)+end, "headers")
	}
}

// P18.1: the record size counts before the size of the header, where there are data.
func TestSizeRecord(t *testing.T) {
	size := func(n int) string { return extended(line("size", strconv.Itoa(n))) }
	for _, b := range []string{size(3) + fileHeader("f", 1, 0) + padded("abc"), size(3) + fileHeader("f", 1, 3) + padded("abc"), size(3) + fileHeader("f", 1, 600) + padded("abc"), size(600) + fileHeader("f", 1, 3) + padded(x(600)), size(0) + fileHeader("f", 1, 3), size(512) + fileHeader("f", 1, 1) + x(512)} {
		wantBody(t, b, "entries")
	}
	for _, b := range []string{size(0) + fileHeader("f", 1, 3) + padded("abc"), size(3) + fileHeader("f", 1, 600) + padded(x(600)), size(600) + dirHeader("d", 1) + padded(x(600)), size(600) + symlinkHeader("d", "t") + padded(x(600)), size(600) + linkHeader("d", 1, "t") + padded(x(600))} {
		wantBody(t, b, "headers")
	}
	for _, b := range []string{size(600) + dirHeader("d", 1), size(600) + symlinkHeader("d", "t"), size(600) + linkHeader("d", 1, "!t"), size(8589934592) + dirHeader("d", 1), size(0) + dirHeader("d", 1)} {
		wantBody(t, b, "entries")
	}
	// Another record does not count.
	both := extended(line("path", long) + line("size", "3"))
	wantBody(t, both+fileHeader("", 1, 600)+padded("abc"), "entries")
	wantBody(t, extended(line("path", "3"))+fileHeader("", 1, 600)+padded(x(600)), "entries")
	wantMatch(t, extended(line("path", long))+fileHeader("", 1, 600)+padded(x(600))+end, []api.Node{file(long, 1, 0, x(600))})
	// The second block of the data is a header, whose first bytes are data and whose other bytes are padding.
	wantViolation(t, size(600)+fileHeader("f", 1, 0)+padded("abc")+dirHeader("g", 1)+end, "padding")
}

// P18.1: each byte of the padding.
func TestPadding(t *testing.T) {
	for _, size := range []int{1, 3, 510, 511, 513, 600, 1023} {
		data := padded(x(size))
		for i := size; i < len(data); i++ {
			wantViolation(t, fileHeader("f", 1, size)+with(data, i, "\x01")+end, "padding")
		}
		wantBody(t, fileHeader("f", 1, size)+with(data, size, "\x80"), "padding")
		wantBody(t, fileHeader("f", 1, size)+with(data, len(data)-1, "x"), "padding")
	}
	records := extended(line("path", long))
	for i := 512 + 111; i < 1024; i++ {
		wantViolation(t, with(records, i, "\x01")+dirHeader("", 1)+end, "padding")
	}
	wantBody(t, with(records, 1023, "x")+dirHeader("", 1), "padding")
	wantBody(t, with(records, 512+111, "x")+fileHeader("", 1, 3)+padded("abc"), "padding")
	wantBody(t, records+fileHeader("", 1, 3)+padded("abcd"), "padding")
	wantBody(t, extended(line("linkpath", long))[:1023]+"x"+linkHeader("k", 1, ""), "padding")
	// Full blocks have no padding.
	exact := line("path", x(502))
	if len(exact) != 512 {
		t.Fatal(len(exact))
	}
	wantMatch(t, extended(exact)+fileHeader("", 1, 512)+x(512)+end, []api.Node{file(x(502), 1, 0, x(512))})
}

// P18.1: headers and records that no valid entry has.
func TestEntries(t *testing.T) {
	for _, b := range []string{
		dirHeader("", 1), dirHeader("k/", 1), dirHeader("/k", 1), dirHeader(".", 1), dirHeader("..", 1), dirHeader("k//l", 1), fileHeader("", 1, 0), fileHeader("./k", 1, 0), symlinkHeader("a/..", "t"), linkHeader("k/", 1, "!t"),
		header("5", "", "k", "t", 1, 0), header("0", "", "k", "t", 1, 0), header("5", "", "k", "", 1, 512), header("5", "k", "k", "", 1, 0), header("0", "a", "b", "", 1, 0), header("5", "k", "", "", 1, 0), header("5", x(50), x(49), "", 1, 0),
		symlinkHeader("k", ""), header("2", "", "k", "t", 1, 0), header("2", "", "k", "t", 0, 1), linkHeader("k", 3, ""), linkHeader("k", 3, "/"), linkHeader("k", 3, "!t/"), linkHeader("k", 3, "./!t"), header("1", "", "k", "!t", 3, 1),
		header("0", x(60)+"/"+x(20), x(60), "", 1, 0), header("5", "a/b", x(98), "", 1, 0), header("0", "/", x(100), "", 1, 0),
	} {
		wantBody(t, b, "entries")
	}
	wantBody(t, header("0", "", "/k", "", 1, 5)+padded("hello"), "entries")
	// A record must be necessary, and its field in the header empty.
	path, target := line("path", long), line("linkpath", long)
	for _, b := range []string{
		extended(path) + dirHeader("k", 1), extended(path) + dirHeader(x(100), 1), extended(path) + header("5", "p", "", "", 1, 0), extended(path) + symlinkHeader("", ""), extended(path) + header("5", "", "", "t", 1, 0), extended(path) + header("5", "", "", "", 1, 1),
		extended(target) + symlinkHeader("k", "t"), extended(target) + dirHeader("k", 1), extended(target) + fileHeader("k", 1, 0), extended(target) + linkHeader("k", 1, long[:100]), extended(target) + symlinkHeader("", ""), extended(target+path) + symlinkHeader("k", ""), extended(target+path) + dirHeader("", 1),
		extended(line("path", x(100))) + dirHeader("", 1), extended(line("path", "k")) + dirHeader("", 1), extended(line("path", "k")) + dirHeader("k", 1), extended(line("path", x(100)+"/"+x(100))) + dirHeader("", 1), extended(line("linkpath", x(100))) + symlinkHeader("k", ""), extended(line("linkpath", "t")) + symlinkHeader("k", "t"),
		extended(line("path", long+"/")) + dirHeader("", 1), extended(line("path", "/"+long)) + dirHeader("", 1), extended(line("linkpath", "/"+long)) + linkHeader("k", 1, ""), extended(line("path", long+"/../"+long)) + dirHeader("", 1),
		extended(line("size", "8589934592")) + symlinkHeader("k", "t"), extended(line("size", "5")) + fileHeader("k", 1, 0) + padded("hello"),
	} {
		wantBody(t, b, "entries")
	}
}

// P18.1: the paths of the members, of whatever kind, are ascending by their bytes.
func TestOrder(t *testing.T) {
	members := func(path string) []string {
		return []string{dirHeader(path, 1), fileHeader(path, 1, 0), fileHeader(path, 1, 3) + padded("abc"), symlinkHeader(path, "t"), linkHeader(path, 3, "!t")}
	}
	for _, c := range [][2]string{{"k", "k"}, {"k", "j"}, {"k", "K"}, {"ka", "k"}, {"k/a", "k"}, {"k/a", "k.a"}, {"k0", "k/a"}, {"k/b/c", "k/b-c"}, {"\xc3\xbc", "k"}, {"\xff", "\xfe"}, {"k\n", "k\t"}} {
		for _, a := range members(c[0]) {
			for _, b := range members(c[1]) {
				wantViolation(t, a+b+end, "order")
				wantViolation(t, fileHeader("!t", 3, 0)+a+b+end, "order")
				wantViolation(t, a+fileHeader("\xff\xff", 3, 0)+b+end, "order")
			}
		}
	}
	// The paths in prefixes and records count, too.
	directory := longDir(x(150))
	split := header("0", x(150), x(100), "", 1, 0)
	wantMatch(t, directory+split+end, []api.Node{dir(x(150), 1), file(x(150)+"/"+x(100), 1, 0, "")})
	for _, b := range []string{split + directory, split + split, directory + directory, split + header("0", x(150), x(99), "", 1, 0), fileHeader("y", 1, 0) + directory, directory + fileHeader("x", 1, 0), directory + longDir(x(149)), directory + split + longDir(x(150)+"."), longDir("k/"+x(200)) + dirHeader("k", 1)} {
		wantBody(t, b, "order")
	}
	// The members need not follow each other.
	wantBody(t, dirHeader("a", 1)+dirHeader("b", 1)+dirHeader("c", 1)+dirHeader("a", 1)+dirHeader("d", 1), "order")
	wantMatch(t, dirHeader("K", 1)+dirHeader("k", 1)+dirHeader("k-", 1)+dirHeader("k/k", 1)+dirHeader("k0", 1)+dirHeader("\xc3\xbc", 1)+end, []api.Node{dir("K", 1), dir("k", 1), dir("k-", 1), dir("k/k", 1), dir("k0", 1), dir("ü", 1)})
}

// P18.1: the parents are members, and directories.
func TestParents(t *testing.T) {
	for _, b := range []string{
		dirHeader("n/k", 1), fileHeader("n/k", 1, 5) + padded("hello"), symlinkHeader("n/k", "t"), linkHeader("n/k", 3, "!t"), fileHeader("n", 1, 0) + dirHeader("n/k", 1), fileHeader("n", 1, 3) + padded("abc") + fileHeader("n/k", 1, 0), symlinkHeader("n", "!") + dirHeader("n/k", 1), linkHeader("n", 3, "!t") + fileHeader("n/k", 1, 0),
		dirHeader("n", 1) + dirHeader("n/a/b", 1), dirHeader("a", 1) + dirHeader("b/a", 1), dirHeader("a", 1) + dirHeader("ab/c", 1), dirHeader("ab", 1) + dirHeader("ab/c", 1) + fileHeader("ab/d/e", 1, 0), dirHeader("N", 1) + dirHeader("n/k", 1), dirHeader("n.", 1) + dirHeader("n/k", 1),
		header("0", x(150), x(100), "", 1, 0), longDir("n/" + x(200)), longDir(x(156) + "/" + x(100)), header("5", x(150), x(100), "", 1, 0) + longDir(x(151)),
	} {
		wantBody(t, b, "parents")
	}
	wantMatch(t, dirHeader("n", 1)+dirHeader("n/a", 1)+dirHeader("n/a/b", 1)+longDir("n/a/b/"+x(200))+end, []api.Node{dir("n", 1), dir("n/a", 1), dir("n/a/b", 1), dir("n/a/b/"+x(200), 1)})
}

// P18.1: the targets of hard links are earlier regular files with the same mode.
func TestLinks(t *testing.T) {
	members := dirHeader("d", 1) + fileHeader("d/f", 2, 513) + padded(x(513)) + linkHeader("d/h", 2, "d/f") + symlinkHeader("k", "d") + fileHeader("m", 3, 0)
	for _, b := range []string{
		linkHeader("n", 2, "d"), linkHeader("n", 1, "d"), linkHeader("n", 3, "d/f"), linkHeader("n", 0, "d/f"), linkHeader("n", 2, "d/h"), linkHeader("n", 0, "k"), linkHeader("n", 3, "n"), linkHeader("n", 3, "o"), linkHeader("n", 3, "d/g"), linkHeader("n", 3, "d/f/m"), linkHeader("n", 2, "f"), linkHeader("n", 4095, "m"),
		linkHeader("n", 3, "o") + fileHeader("o", 3, 0), linkHeader("n", 3, "m") + linkHeader("o", 3, "n"), extended(line("path", x(300))) + linkHeader("", 2, "m"), extended(line("linkpath", x(300))) + linkHeader("n", 3, ""), extended(line("linkpath", long)) + linkHeader("n", 3, "") + extended(line("path", long)) + fileHeader("", 3, 0),
	} {
		wantBody(t, members+b, "links")
	}
	for _, l := range [][]api.Node{
		{file("a", 3, 1, "data"), file("b", 3, 1, "data"), file("c", 3, 1, "data")}, {file(long, 3, 1, "data"), file("z", 3, 1, "data")}, {file("a", 3, 1, "data"), file(long, 3, 1, "data")}, {dir("d", 1), file("d/f", 0, 1, ""), file("e", 0, 1, ""), file("f", 4095, 2, ""), file("g", 4095, 2, "")},
	} {
		wantMatch(t, stream(l), l)
	}
	wantViolation(t, linkHeader("a", 1, "d/f")+dirHeader("d", 1)+fileHeader("d/f", 1, 0)+end, "links")
	wantViolation(t, linkHeader("a", 1, "a")+end, "links")
}

// violations are streams that violate a single rule each, with paths that start with p.
func violations(p string) map[string]string {
	return map[string]string{
		"headers": x(512),
		"padding": fileHeader(p, 1, 3) + padded("abcd"),
		"entries": dirHeader(p+"/", 1),
		"order":   dirHeader(p, 1) + dirHeader(p, 1),
		"parents": dirHeader(p+"/k", 1),
		"links":   linkHeader(p, 1, "no"),
	}
}

// P18.1: the first rule that any member violates, wherever the member is.
func TestFirstRule(t *testing.T) {
	names := []string{"headers", "padding", "entries", "order", "parents", "links"}
	for _, a := range names {
		wantBody(t, violations("a")[a], a)
		for _, b := range names {
			for _, c := range names {
				body := violations("a")[a] + violations("b")[b] + violations("c")[c]
				first := names[min(slices.Index(names, a), slices.Index(names, b), slices.Index(names, c))]
				wantBody(t, body, first)
				wantViolation(t, body+end+"\x00", "blocks")
				wantViolation(t, body+end[:1023], "blocks")
				wantViolation(t, body+zeros(512), "trailer")
				wantViolation(t, body+end+x(512), "trailer")
			}
		}
	}
	// One member violates several rules.
	for _, c := range []struct{ body, want string }{
		{with(dirHeader("no/k/", 1), 500, "x"), "headers"}, {fileHeader("/k", 1, 60000) + padded("abc"), "headers"}, {with(extended(line("path", long)), 1023, "x") + x(512), "headers"}, {fileHeader("no//k", 1, 3) + padded("abcd"), "padding"}, {with(extended(line("path", "k")), 1023, "x") + dirHeader("no/k/", 1), "padding"},
		{fileHeader("no/k", 1, 3) + padded("abcd"), "padding"}, {dirHeader("m", 1) + dirHeader("k/", 1), "entries"}, {linkHeader("no/k", 1, ""), "entries"}, {dirHeader("m", 1) + linkHeader("k/m", 1, "no"), "order"}, {dirHeader("m", 1) + dirHeader("k/m", 1), "order"}, {linkHeader("no/k", 1, "no"), "parents"},
	} {
		wantBody(t, c.body, c.want)
	}
}

// wantAgreement checks all results for a byte slice against the model and against package archive. It returns the violated rule.
func wantAgreement(t *testing.T, b string) string {
	t.Helper()
	want := modelViolation(b)
	if got := grammar.Violation([]byte(b)); got != want {
		t.Fatalf("Violation of %d bytes = %q, want %q", len(b), got, want)
	}
	l, ok := grammar.Match([]byte(b))
	decoded, _, err := archive.Decode([]byte(b))
	if ok != (want == "") || ok != (err == api.OK) || !slices.Equal(texts(l), texts(decoded)) {
		t.Fatalf("Match of %d bytes = %s, %v, but Decode = %s, %v", len(b), short(l), ok, short(decoded), err)
	}
	if !ok {
		return want
	}
	// What is accepted is the archive of what is returned.
	if encoded, err := archive.Encode(l); string(encoded) != b || err != api.OK {
		t.Fatalf("%d bytes that are no canonical archive are accepted", len(b))
	}
	return want
}

// P18.1 to P18.3: all short sequences of some blocks.
func TestShortBodies(t *testing.T) {
	records := extended(line("path", long))
	blocks := []string{zeros(512), padded("x"), dirHeader("a", 1), fileHeader("a/f", 1, 1), linkHeader("b", 1, "a/f"), fileHeader("c", 1, 513), records[:512], records[512:], dirHeader("", 1)}
	results := map[string]int{}
	bodies := []string{""}
	for range 5 {
		var longer []string
		for _, body := range bodies {
			for _, b := range blocks {
				longer = append(longer, body+b)
			}
		}
		for _, b := range longer {
			results[wantAgreement(t, b+end)]++
		}
		bodies = longer
	}
	for _, name := range []string{"", "headers", "padding", "entries", "order", "parents", "links"} {
		if results[name] < 10 {
			t.Errorf("only %d bodies with the result %q", results[name], name)
		}
	}
}

// randomTree returns a valid tree in a random order.
func randomTree(random *rand.Rand) []api.Node {
	var l []api.Node
	parents := []string{""}
	used := map[string]bool{}
	classes := []int{1, 2, 5, 1 << 40, math.MaxInt}
	for range random.Intn(20) {
		p := parents[random.Intn(len(parents))] + []string{"a", "b", "a.x", "A", "\xff", "0", x(60), long}[random.Intn(8)]
		if used[p] {
			continue
		}
		used[p] = true
		switch random.Intn(4) {
		case 0:
			l = append(l, dir(p, random.Intn(4096)))
			parents = append(parents, p+"/")
		case 1:
			l = append(l, symlink(p, strings.Repeat(p, 1+random.Intn(3))))
		case 2:
			l = append(l, file(p, random.Intn(4096), 0, strings.Repeat(string(rune(random.Intn(128))), random.Intn(1100))))
		default:
			i := random.Intn(len(classes))
			l = append(l, file(p, i, classes[i], x(i*300)))
		}
	}
	random.Shuffle(len(l), func(i, j int) { l[i], l[j] = l[j], l[i] })
	return l
}

// P18.2, P18.3: the archives of random trees denote these trees.
func TestRandomTrees(t *testing.T) {
	random := rand.New(rand.NewSource(1))
	for range 2000 {
		l := randomTree(random)
		b, err := archive.Encode(l)
		if err != api.OK {
			t.Fatal(short(l), err)
		}
		wantMatch(t, string(b), l)
		wantAgreement(t, string(b))
		if t.Failed() {
			return
		}
	}
}

// spoil changes a stream of at least one block at random.
func spoil(random *rand.Rand, b string) string {
	blocks := len(b) / 512
	i, j := 512*random.Intn(blocks), 512*random.Intn(blocks)
	switch random.Intn(9) {
	case 0:
		return b[:i] + b[i+512:]
	case 1:
		return b[:i] + b[j:]
	case 2:
		return b[:i] + b[j:j+512] + b[i:]
	case 3:
		return with(b, i, b[j:j+512])
	case 4:
		return b[:random.Intn(len(b))]
	case 5:
		return b + strings.Repeat(string(rune(random.Intn(2))), 1+random.Intn(1100))
	case 6:
		return with(b, random.Intn(len(b)), string(rune(random.Intn(128))))
	case 7:
		// The first byte of a name, a mode, or a size, for example.
		at := []int{0, 1, 99, 106, 124, 134, 156, 157, 257, 345, 511, random.Intn(512)}[random.Intn(12)]
		return with(b, i, seal(with(b[i:i+512], at, string(rune("\x00/012357abx"[random.Intn(11)])))))
	}
	return b[:i] + zeros(512) + b[i:]
}

// P18.1, P18.3: changed archives.
func TestChangedArchives(t *testing.T) {
	random := rand.New(rand.NewSource(2))
	results := map[string]int{}
	for range 20000 {
		results[wantAgreement(t, spoil(random, stream(randomTree(random))))]++
	}
	for _, name := range []string{"", "blocks", "trailer", "headers", "padding", "entries", "order", "parents", "links"} {
		if results[name] < 10 {
			t.Errorf("only %d streams with the result %q", results[name], name)
		}
	}
}

// P18.1, P18.3: members that violate any rules, in random order or almost sorted.
func TestRandomMembers(t *testing.T) {
	random := rand.New(rand.NewSource(3))
	results := map[string]int{}
	for range 20000 {
		var paths []string
		for range 1 + random.Intn(5) {
			paths = append(paths, []string{"a", "a/b", "a/c", "b", "b/a", "c", "d", "d/e/f", long}[random.Intn(9)])
		}
		if random.Intn(4) > 0 {
			slices.Sort(paths)
			paths = slices.Compact(paths)
		}
		body := ""
		for _, p := range paths {
			e := api.Entry{Path: p, Mode: random.Intn(2)}
			data := ""
			switch random.Intn(7) {
			case 0, 1, 2:
			case 3, 4:
				e.Kind, data = api.File, strings.Repeat("d", random.Intn(3)*300)
				e.Size = int64(len(data))
			case 5:
				e.Kind, e.Mode, e.Target = api.Symlink, 0, p
			default:
				e.Kind, e.Target = api.Hardlink, paths[random.Intn(len(paths))]
			}
			blocks := entryBlocks(e) + padded(data)
			if random.Intn(12) == 0 {
				at := random.Intn(len(blocks))
				blocks = with(blocks, at, "/")
			}
			if random.Intn(12) == 0 {
				blocks = with(blocks, 0, seal(with(blocks[:512], 0, "/")))
			}
			body += blocks
		}
		results[wantAgreement(t, body+end)]++
	}
	for _, name := range []string{"", "headers", "padding", "entries", "order", "parents", "links"} {
		if results[name] < 100 {
			t.Errorf("only %d streams with the result %q", results[name], name)
		}
	}
}

// P18.1, P18.3: every byte of an archive, changed.
func TestChangedBytes(t *testing.T) {
	b := stream(sample())
	for i := range len(b) {
		for _, c := range []byte{'1', b[i] + 1} {
			if c != b[i] {
				wantAgreement(t, with(b, i, string([]byte{c})))
			}
		}
	}
}

// P18.1, P18.3: no proper prefix of an archive is one.
func TestPrefixes(t *testing.T) {
	for _, l := range [][]api.Node{nil, {file("f", 1, 0, "data")}, sample()} {
		b := stream(l)
		for n := range len(b) {
			if wantAgreement(t, b[:n]) == "" {
				t.Fatal(n)
			}
		}
		for n := 1; n < 1100; n++ {
			if wantAgreement(t, b+zeros(n)) == "" || wantAgreement(t, zeros(n)+b) == "" {
				t.Fatal(n)
			}
		}
	}
}

// fill overwrites a slice up to its capacity: bytes beyond the length might be those of another slice.
func fill(b []byte, c byte) {
	b = b[:cap(b)]
	for i := range b {
		b[i] = c
	}
}

// Rule 4: results share memory neither with the argument nor with each other.
func TestNewMemory(t *testing.T) {
	want := stream(sample())
	canon := texts(tree.Canon(sample()))
	argument := []byte(want)
	one, _ := grammar.Match(argument)
	two, _ := grammar.Match(argument)
	for i := range one {
		fill(one[i].Data, '!')
		if string(argument) != want || !slices.Equal(texts(two), canon) || !slices.Equal(texts(one[i+1:]), canon[i+1:]) {
			t.Fatalf("the data of the node %d share memory", i)
		}
	}
	clear(one)
	fill(argument, '?')
	if !slices.Equal(texts(two), canon) {
		t.Error("the nodes share memory with the argument")
	}
}

// Rule 4: nothing beyond the length of an argument counts.
func TestBeyondTheLength(t *testing.T) {
	b := []byte(stream(sample()) + x(1024))
	n := len(b) - 1024
	if s := grammar.Violation(b[:n]); s != "" {
		t.Error(s)
	}
	if l, ok := grammar.Match(b[:n]); !ok || !tree.Equal(l, sample()) {
		t.Error(short(l), ok)
	}
	b = []byte(dirHeader("d", 1) + end)
	if s := grammar.Violation(b[:512]); s != "trailer" {
		t.Error(s)
	}
	if s := grammar.Violation(b[:0]); s != "blocks" {
		t.Error(s)
	}
	b = []byte(fileHeader("f", 1, 512) + end + zeros(512))
	if s := grammar.Violation(b[:1536]); s != "headers" {
		t.Error(s)
	}
}

// P1: a large size with few bytes does not lead to a large allocation.
func TestLargeSize(t *testing.T) {
	var before, after runtime.MemStats
	runtime.ReadMemStats(&before)
	for _, b := range []string{header("0", "", "k", "", 1, maxOctal), extended(line("size", "1099511627776")) + fileHeader("k", 1, 0)} {
		wantViolation(t, b+x(1024)+end, "headers")
	}
	runtime.ReadMemStats(&after)
	if n := after.TotalAlloc - before.TotalAlloc; n > 1<<24 {
		t.Errorf("%d bytes have been allocated", n)
	}
}

// P18.2: the longest values, and much data.
func TestLargeValues(t *testing.T) {
	path := strings.Repeat("\n", 65536)
	l := []api.Node{file("a", 1, 1, strings.Repeat("large\x00", 200000)), file("b", 1, 1, strings.Repeat("large\x00", 200000)), symlink(path, path), file("c", 2, 0, x(1<<20)), file("d", 2, 0, x(1<<20+1))}
	wantMatch(t, stream(l), l)
	deep := []api.Node{}
	for p := "d"; len(p) < 3000; p += "/d" {
		deep = append(deep, dir(p, len(p)))
	}
	wantMatch(t, stream(deep), deep)
}

// P1: many members do not take time that grows with the square of their number.
func TestManyNodes(t *testing.T) {
	const n = 40000
	l := []api.Node{dir("d", 1)}
	for i := range n {
		l = append(l, file("d/"+strconv.Itoa(n+n-i), 1, 1+i/2, "data"))
	}
	b, err := archive.Encode(l)
	if err != api.OK {
		t.Fatal(err)
	}
	if got, ok := grammar.Match(b); !ok || !tree.Equal(got, l) {
		t.Error(len(got), ok)
	}
}

// P1: no argument makes a function panic, and all functions agree.
func TestRandomBytes(t *testing.T) {
	random := rand.New(rand.NewSource(4))
	for range 2000 {
		b := make([]byte, 512*random.Intn(6)+random.Intn(2)*random.Intn(512))
		if random.Intn(3) > 0 {
			random.Read(b)
		}
		wantAgreement(t, string(b))
		wantAgreement(t, string(b)+end)
	}
	// Headers with random bytes and the right checksum, which are read further.
	for range 20000 {
		b := header("0125x"[random.Intn(5):][:1], "", "k", "", random.Intn(2), int64(random.Intn(3)*300))
		for range 1 + random.Intn(2) {
			b = with(b, random.Intn(512), string([]byte{byte(random.Intn(256))}))
		}
		wantAgreement(t, seal(b)+padded(x(random.Intn(1000)))+end)
	}
}

// Rule 7: equal arguments have equal results.
func TestDeterminism(t *testing.T) {
	random := rand.New(rand.NewSource(5))
	for range 300 {
		b := stream(randomTree(random))
		if random.Intn(2) == 0 {
			b = spoil(random, b)
		}
		l, ok := grammar.Match([]byte(b))
		again, other := grammar.Match([]byte(b))
		if !slices.Equal(texts(l), texts(again)) || ok != other || grammar.Violation([]byte(b)) != grammar.Violation([]byte(b)) {
			t.Fatal(short(l), short(again))
		}
	}
}

// P2, rule 6: calls are independent of each other, also at the same time.
func TestConcurrentCalls(t *testing.T) {
	shared := []byte(stream(sample()))
	canon := texts(tree.Canon(sample()))
	var group sync.WaitGroup
	for seed := range 8 {
		group.Go(func() {
			random := rand.New(rand.NewSource(int64(seed)))
			for range 30 {
				if l, ok := grammar.Match(shared); !ok || !slices.Equal(texts(l), canon) {
					t.Error(short(l), ok)
				}
				if s := grammar.Violation(shared[:len(shared)-512]); s != "trailer" {
					t.Error(s)
				}
				l := randomTree(random)
				wantMatch(t, stream(l), l)
			}
		})
	}
	group.Wait()
}
