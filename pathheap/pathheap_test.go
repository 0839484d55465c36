package pathheap_test

import (
	"fmt"
	"math/rand"
	"runtime"
	"slices"
	"strconv"
	"strings"
	"sync"
	"testing"

	"paxtar/pathheap"
)

// ascending are strings in ascending order: the order is that of the bytes, not of letters, components, lengths or numbers.
var ascending = []string{
	"", "\x00", "\x00\x00", "\x00a", "\x01", "\n", " ", "-", ".", "..", "/", "//", "10", "9", "A", "B", "Z", "_",
	"a", "a\x00", "a\x00b", "a b", "a-b", "a.b", "a/", "a/b", "a/b/c", "a0", "aB", "aa", "ab", "b", "b/a", "z",
	"\x7f", "\x80", "\xc3", "\xc3\xa9", "\xe2\x82\xac", "\xef\xbf\xbd", "\xf0\x9f\x98\x80", "\xfe", "\xff", "\xff\x00", "\xff\xff",
}

func cut(s string) string {
	if len(s) > 300 {
		s = s[:300] + "…"
	}
	return s
}

func quote(l []string) string { return cut(fmt.Sprintf("%d %+q", len(l), l)) }

// sorted returns the strings of all lists in ascending order, by the insertion of each after all that are not greater.
func sorted(l ...[]string) []string {
	var all []string
	for _, list := range l {
		for _, s := range list {
			i := len(all)
			for i > 0 && all[i-1] > s {
				i--
			}
			all = slices.Insert(all, i, s)
		}
	}
	return all
}

func shuffled(random *rand.Rand, l []string) []string {
	l = slices.Clone(l)
	random.Shuffle(len(l), func(i, j int) { l[i], l[j] = l[j], l[i] })
	return l
}

// wantEmpty checks that a heap has no strings.
func wantEmpty(t *testing.T, h *pathheap.Heap) {
	t.Helper()
	if n := h.Len(); n != 0 {
		t.Errorf("Len() = %d, want 0", n)
	}
	if p, ok := h.Peek(); p != "" || ok {
		t.Errorf("Peek() = %q, %t, want none", cut(p), ok)
	}
	if p, ok := h.Pop(); p != "" || ok {
		t.Errorf("Pop() = %q, %t, want none", cut(p), ok)
	}
	if n := h.Len(); n != 0 {
		t.Errorf("Len() = %d after Pop on an empty heap, want 0", n)
	}
}

// wantLeast checks the least string of a heap of n strings, and removes nothing.
func wantLeast(t *testing.T, h *pathheap.Heap, want string, n int) {
	t.Helper()
	for range 2 {
		if got := h.Len(); got != n {
			t.Errorf("Len() = %d, want %d", got, n)
		}
		if p, ok := h.Peek(); p != want || !ok {
			t.Errorf("Peek() = %q, %t, want %q", cut(p), ok, cut(want))
		}
	}
}

// wantPop removes the least string of a heap of n strings.
func wantPop(t *testing.T, h *pathheap.Heap, want string, n int) {
	t.Helper()
	wantLeast(t, h, want, n)
	if p, ok := h.Pop(); p != want || !ok {
		t.Errorf("Pop() = %q, %t, want %q", cut(p), ok, cut(want))
	}
	if got := h.Len(); got != n-1 {
		t.Errorf("Len() = %d after Pop, want %d", got, n-1)
	}
}

// wantAll removes all strings of a heap. Like wantMerged, it does nothing in a test that has failed, which may call it many thousand times.
func wantAll(t *testing.T, h *pathheap.Heap, want ...string) {
	t.Helper()
	for i, s := range want {
		if t.Failed() {
			return
		}
		wantPop(t, h, s, len(want)-i)
	}
	if !t.Failed() {
		wantEmpty(t, h)
	}
}

func wantMerged(t *testing.T, want []string, l ...[]string) {
	t.Helper()
	if t.Failed() {
		return
	}
	var before [][]string
	for _, list := range l {
		before = append(before, slices.Clone(list))
	}
	if got := pathheap.Merge(l...); !slices.Equal(got, want) {
		t.Errorf("Merge of %d lists = %s, want %s", len(l), quote(got), quote(want))
	}
	if !slices.EqualFunc(l, before, slices.Equal) {
		t.Error("Merge has changed its arguments")
	}
}

// orders calls f with the strings in every order.
func orders(l []string, f func([]string)) {
	var next func(order, rest []string)
	next = func(order, rest []string) {
		if len(rest) == 0 {
			f(slices.Clone(order))
		}
		for i := range rest {
			next(append(slices.Clone(order), rest[i]), slices.Delete(slices.Clone(rest), i, i+1))
		}
	}
	next(nil, l)
}

// lists calls f with every list of up to n of the strings.
func lists(strs []string, n int, f func([]string)) {
	var next func(l []string)
	next = func(l []string) {
		f(slices.Clone(l))
		if len(l) < n {
			for _, s := range strs {
				next(append(slices.Clone(l), s))
			}
		}
	}
	next(nil)
}

func TestExamples(t *testing.T) {
	wantAll(t, pathheap.New("c", "a", "b"), "a", "b", "c")
	wantMerged(t, []string{"a", "b", "c"}, []string{"a", "c"}, []string{"b"})
}

func TestNilHeap(t *testing.T) {
	var h *pathheap.Heap
	wantEmpty(t, h)
	h.Push()
	h.Push("a")
	h.Push("a", "b")
	wantEmpty(t, h)
}

// P16.1: a heap without strings, and an addition of none.
func TestEmptyHeap(t *testing.T) {
	for _, h := range []*pathheap.Heap{pathheap.New(), pathheap.New(nil...), pathheap.New([]string{}...)} {
		if h == nil {
			t.Fatal("New() = nil")
		}
		wantEmpty(t, h)
		h.Push()
		h.Push(nil...)
		wantEmpty(t, h)
		h.Push("a")
		h.Push()
		wantLeast(t, h, "a", 1)
		wantAll(t, h, "a")
	}
}

// P16.1: New and Push accept any string, also an empty one, which is not the same as none.
func TestAnyString(t *testing.T) {
	strs := append(slices.Clone(ascending), strings.Repeat("x", 65537), strings.Repeat("\x00", 70000), strings.Repeat("a/", 100000), "/a/../b", "a//b", ".", "é")
	for b := range 256 {
		strs = append(strs, string([]byte{byte(b)}))
	}
	for _, s := range strs {
		wantAll(t, pathheap.New(s), s)
		h := pathheap.New()
		h.Push(s)
		wantAll(t, h, s)
		wantAll(t, pathheap.New(s, s, s), s, s, s)
	}
}

// P16.1: a string is contained as often as it was given, in one call or in several.
func TestRepeatedStrings(t *testing.T) {
	h := pathheap.New("b", "a", "b", "", "a", "b")
	wantLeast(t, h, "", 6)
	h.Push("a", "a")
	h.Push("")
	h.Push("c")
	wantLeast(t, h, "", 10)
	wantAll(t, h, "", "", "a", "a", "a", "a", "b", "b", "b", "c")
	h.Push("b")
	h.Push("b")
	wantAll(t, h, "b", "b")
}

// P16.1: Len counts additions and removals of any number of strings.
func TestLen(t *testing.T) {
	h := pathheap.New()
	n := 0
	for size := range 40 {
		h.Push(slices.Repeat([]string{"x"}, size)...)
		n += size
		if got := h.Len(); got != n {
			t.Fatalf("Len() = %d, want %d", got, n)
		}
		if n > 0 {
			wantPop(t, h, "x", n)
			n--
		}
		if got := pathheap.New(slices.Repeat([]string{"x"}, size)...).Len(); got != size {
			t.Errorf("Len() = %d, want %d", got, size)
		}
	}
}

// P16.2: of any two strings, the lesser one by its bytes is removed first.
func TestBytewiseOrder(t *testing.T) {
	for i, a := range ascending {
		for j, b := range ascending {
			first, second := ascending[min(i, j)], ascending[max(i, j)]
			wantAll(t, pathheap.New(a, b), first, second)
			h := pathheap.New(a)
			h.Push(b)
			wantAll(t, h, first, second)
			wantMerged(t, []string{first, second}, []string{a, b})
			wantMerged(t, []string{first, second}, []string{a}, []string{b})
		}
	}
}

// P16.2: strings that differ only in their last byte or in their length have an order, too.
func TestLongStrings(t *testing.T) {
	x := strings.Repeat("x", 65535)
	want := []string{x, x + "\x00", x + "/", x + "/a", x + "a", x + "x", x + "xx", x + "\xff"}
	random := rand.New(rand.NewSource(1))
	for range 50 {
		l := shuffled(random, want)
		wantAll(t, pathheap.New(l...), want...)
		wantMerged(t, want, l[:3], l[3:])
	}
}

// P16.2: Pop takes one occurrence of the least string, whatever is pushed in between.
func TestPushAfterPop(t *testing.T) {
	h := pathheap.New("m", "k")
	wantPop(t, h, "k", 2)
	h.Push("z", "a")
	wantPop(t, h, "a", 3)
	h.Push("m", "l", "n")
	wantPop(t, h, "l", 5)
	wantPop(t, h, "m", 4)
	h.Push("k")
	wantPop(t, h, "k", 4)
	wantAll(t, h, "m", "n", "z")
	h.Push("b", "a")
	wantAll(t, h, "a", "b")
}

// P16.2: an empty heap stays as it is, however often Pop finds it so.
func TestEmptyPop(t *testing.T) {
	h := pathheap.New("a")
	wantPop(t, h, "a", 1)
	for range 5 {
		wantEmpty(t, h)
	}
	h.Push("b")
	wantPop(t, h, "b", 1)
	wantEmpty(t, h)
}

// P16.2: many calls of Peek in between have no effect.
func TestPeekRemovesNothing(t *testing.T) {
	h := pathheap.New("c", "b", "d", "a", "e")
	for range 100 {
		wantLeast(t, h, "a", 5)
	}
	h.Push("a")
	wantAll(t, h, "a", "a", "b", "c", "d", "e")
}

// P16.1 and P16.2: random calls against a list that is kept in ascending order.
func TestAgainstList(t *testing.T) {
	random := rand.New(rand.NewSource(2))
	for range 300 {
		strs := shuffled(random, ascending)[:1+random.Intn(len(ascending))]
		some := func() []string {
			var l []string
			for range random.Intn(6) {
				l = append(l, strs[random.Intn(len(strs))])
			}
			return l
		}
		first := some()
		h, list := pathheap.New(first...), sorted(first)
		for range 60 {
			switch {
			case random.Intn(3) == 0:
				l := some()
				h.Push(l...)
				list = sorted(list, l)
			case len(list) == 0:
				wantEmpty(t, h)
			default:
				wantPop(t, h, list[0], len(list))
				list = list[1:]
			}
			if t.Failed() {
				return
			}
		}
		wantAll(t, h, list...)
	}
}

// P16.3: the lists may be any number of lists of any number of strings in any order.
func TestMerge(t *testing.T) {
	wantMerged(t, nil)
	wantMerged(t, nil, nil)
	wantMerged(t, nil, []string{}, nil, []string{})
	wantMerged(t, []string{""}, nil, []string{""})
	wantMerged(t, []string{"", "", ""}, []string{""}, []string{"", ""})
	wantMerged(t, []string{"a"}, []string{"a"})
	wantMerged(t, []string{"a", "b", "c"}, []string{"c", "b", "a"})
	wantMerged(t, []string{"a", "b", "c"}, []string{"c"}, []string{"b"}, nil, []string{"a"})
	wantMerged(t, []string{"a", "a", "b", "b", "b", "c"}, []string{"b", "a"}, []string{"c", "b"}, []string{"a", "b"})
	same := []string{"b", "a"}
	wantMerged(t, []string{"a", "a", "a", "b", "b", "b"}, same, same, same)
}

// P16.3: every short list, cut into two at every place.
func TestMergeShortLists(t *testing.T) {
	lists([]string{"", "a", "a.", "a/"}, 5, func(l []string) {
		want := sorted(l)
		for i := range len(l) + 1 {
			wantMerged(t, want, l[:i], l[i:])
		}
	})
}

// P16.3: random lists against insertion.
func TestMergeRandomLists(t *testing.T) {
	random := rand.New(rand.NewSource(3))
	for range 500 {
		var l [][]string
		for range random.Intn(8) {
			var list []string
			for range random.Intn(20) {
				list = append(list, ascending[random.Intn(len(ascending))])
			}
			l = append(l, list)
		}
		wantMerged(t, sorted(l...), l...)
	}
}

// P16.4: the order in which strings are pushed, and by how many calls, makes no difference.
func TestEveryOrder(t *testing.T) {
	for _, want := range [][]string{{"", "a", "a.b", "a/b", "a0", "\xff"}, {"a", "a", "b", "b", "b", "c"}} {
		orders(want, func(l []string) {
			wantAll(t, pathheap.New(l...), want...)
			h := pathheap.New()
			for _, s := range l {
				h.Push(s)
			}
			wantAll(t, h, want...)
			h = pathheap.New(l[:2]...)
			h.Push(l[2:]...)
			wantAll(t, h, want...)
		})
	}
}

// P16.4: every short list, also with strings several times.
func TestEveryShortList(t *testing.T) {
	lists([]string{"", "a", "a.", "a/"}, 6, func(l []string) {
		wantAll(t, pathheap.New(l...), sorted(l)...)
	})
}

// P16.4: larger heaps of every number of strings.
func TestEveryNumber(t *testing.T) {
	random := rand.New(rand.NewSource(4))
	var want []string
	for i := range 130 {
		l := shuffled(random, want)
		wantAll(t, pathheap.New(l...), want...)
		wantMerged(t, want, l)
		want = append(want, fmt.Sprintf("%04d", i/2))
	}
}

// Rule 4: neither are arguments modified, nor do they matter after the call.
func TestArguments(t *testing.T) {
	l := []string{"d", "a", "c", "b", "unread"}
	before := slices.Clone(l)
	h := pathheap.New(l[:4]...)
	h.Push(l[:2]...)
	if !slices.Equal(l, before) {
		t.Error(l)
	}
	for i := range l {
		l[i] = "changed"
	}
	wantPop(t, h, "a", 6)
	h.Push("e")
	if !slices.Equal(l, slices.Repeat([]string{"changed"}, 5)) {
		t.Error(l)
	}
	wantAll(t, h, "a", "b", "c", "d", "d", "e")
}

// Rule 4: a merged list is new memory.
func TestMergeNewMemory(t *testing.T) {
	l := []string{"a", "b", "c"}
	first, second := pathheap.Merge(l), pathheap.Merge(l)
	for i := range first {
		first[i] = "changed"
	}
	if want := []string{"a", "b", "c"}; !slices.Equal(l, want) || !slices.Equal(second, want) {
		t.Error(l, second)
	}
	for i := range l {
		l[i] = "changed"
	}
	if !slices.Equal(second, []string{"a", "b", "c"}) {
		t.Error(second)
	}
}

// allocated returns the number of bytes in use.
func allocated() int64 {
	runtime.GC()
	var m runtime.MemStats
	runtime.ReadMemStats(&m)
	return int64(m.HeapAlloc)
}

// P16.2: a heap does not keep the memory of a string that Pop has removed.
func TestRemovedMemory(t *testing.T) {
	const size = 1 << 25
	h := pathheap.New("b", "c")
	before := allocated()
	h.Push(strings.Repeat("a", size))
	if grown := allocated() - before; grown < size/2 {
		t.Errorf("%d bytes for a string of %d", grown, size)
	}
	if p, ok := h.Pop(); len(p) != size || !ok {
		t.Error(len(p), ok)
	}
	if grown := allocated() - before; grown > size/2 {
		t.Errorf("%d bytes are kept after Pop", grown)
	}
	wantAll(t, h, "b", "c")
}

// P1: many strings do not take time that grows with the square of their number, whatever their order.
func TestManyStrings(t *testing.T) {
	const n = 200000
	up := make([]string, n)
	for i := range up {
		up[i] = "d/" + strconv.Itoa(n+i)
	}
	down := slices.Clone(up)
	slices.Reverse(down)
	for _, l := range [][]string{up, down, shuffled(rand.New(rand.NewSource(5)), up)} {
		wantMerged(t, up, l[:n/2], l[n/2:])
		h := pathheap.New(l[:n/2]...)
		for _, s := range l[n/2:] {
			h.Push(s)
		}
		for i, s := range up {
			if p, ok := h.Pop(); p != s || !ok {
				t.Fatalf("%d: Pop() = %q, %t, want %q", i, p, ok, s)
			}
		}
		wantEmpty(t, h)
	}
	equal := slices.Repeat([]string{"a"}, n)
	wantMerged(t, equal, equal)
}

// P2: heaps are independent of each other, also at the same time.
func TestIndependentHeaps(t *testing.T) {
	l := []string{"b", "a"}
	a, b := pathheap.New(l...), pathheap.New(l...)
	a.Push("0")
	wantPop(t, b, "a", 2)
	b.Push("c")
	wantAll(t, a, "0", "a", "b")
	wantAll(t, b, "b", "c")
	var group sync.WaitGroup
	for seed := range 8 {
		group.Go(func() {
			random := rand.New(rand.NewSource(int64(seed)))
			for range 50 {
				wantAll(t, pathheap.New(shuffled(random, ascending)...), ascending...)
				wantMerged(t, []string{"a", "b"}, l)
			}
		})
	}
	group.Wait()
}
