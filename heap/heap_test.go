package heap

import (
	"math"
	"slices"
	"testing"

	"rickyard/api"
)

const (
	least = math.MinInt64
	most  = math.MaxInt64
)

// numbers are those at the edges of a heap of that many pages, just beyond, and far out.
func numbers(pages int) []int {
	return []int{
		least, least + 1, -1 << 62, -1 << 32, -257, -256, -pages - 1, -pages, -8, -2, -1,
		0, 1, 2, 3, 7, 8, 9, pages / 2, pages - 2, pages - 1, pages, pages + 1, 2 * pages, 255, 256, 257,
		1 << 31, 1 << 32, 1<<32 + 1, 1 << 62, most - pages, most - pages + 1, most - 1, most,
	}
}

// sp makes a span.
func sp(at, n, class int) api.Span {
	return api.Span{At: at, N: n, Class: class}
}

// picture is the plain picture of a heap: for each page the span that contains it, with N 0 if it is free.
type picture []api.Span

// room returns the first page from which on n pages are free: the first run with so many begins there.
func (p picture) room(n int) (int, bool) {
	free := 0
	for i, s := range p {
		if s.N != 0 {
			free = 0
			continue
		}
		free++
		if free == n {
			return i + 1 - n, true
		}
	}
	return 0, false
}

// alloc draws a span.
func (p picture) alloc(n, class int) (int, api.Errno) {
	if n < 1 || class < 0 || class > 7 {
		return 0, api.ErrArg
	}
	at, ok := p.room(n)
	if !ok {
		return 0, api.ErrFull
	}
	for i := range n {
		p[at+i] = sp(at, n, class)
	}
	return at, api.OK
}

// free wipes a span out.
func (p picture) free(at int) (api.Span, api.Errno) {
	s, ok := p.of(at)
	if !ok || s.At != at {
		return api.Span{}, api.ErrNone
	}
	for i := range s.N {
		p[at+i] = api.Span{}
	}
	return s, api.OK
}

// of reads the span of a page off the picture.
func (p picture) of(page int) (api.Span, bool) {
	if page < 0 || page >= len(p) || p[page].N == 0 {
		return api.Span{}, false
	}
	return p[page], true
}

// spans reads all spans off the picture.
func (p picture) spans() []api.Span {
	l := []api.Span{}
	for i, s := range p {
		if s.N != 0 && s.At == i {
			l = append(l, s)
		}
	}
	return l
}

// runs reads the free runs off the picture, page by page.
func (p picture) runs() []api.Run {
	l := []api.Run{}
	for i, s := range p {
		switch {
		case s.N != 0:
		case i > 0 && p[i-1].N == 0:
			l[len(l)-1].N++
		default:
			l = append(l, api.Run{At: i, N: 1})
		}
	}
	return l
}

// hold holds all that a heap tells against its picture; what says which call comes before.
func hold(t *testing.T, h *Heap, p picture, what string) {
	t.Helper()
	if got, want := h.Spans(), p.spans(); !slices.Equal(got, want) {
		t.Fatalf("7.1, R5: %s: Spans is %v, not %v", what, got, want)
	}
	if got, want := h.Runs(), p.runs(); !slices.Equal(got, want) {
		t.Fatalf("7.1, R5: %s: Runs is %v, not %v", what, got, want)
	}
	if n := h.Pages(); n != len(p) {
		t.Fatalf("7.1, R5: %s: Pages is %d, not %d", what, n, len(p))
	}
	for page := -1; page <= len(p); page++ {
		s, ok := h.Of(page)
		if in, has := p.of(page); s != in || ok != has {
			t.Fatalf("7.1, R5: %s: Of(%d) is %v, %t, not %v, %t", what, page, s, ok, in, has)
		}
	}
	for n := -1; n <= len(p)+1; n++ {
		if _, want := p.room(n); h.Fits(n) != want {
			t.Fatalf("7.1, R5: %s: Fits(%d) is %t", what, n, !want)
		}
	}
	once(t, h, what)
}

// once counts for each page the free runs and the spans that have it.
func once(t *testing.T, h *Heap, what string) {
	t.Helper()
	count := make([]int, h.Pages())
	add := func(at, n int) {
		for i := range n {
			if at < 0 || at+i >= len(count) {
				t.Fatalf("7.2: %s: page %d is not one of the heap", what, at+i)
			}
			count[at+i]++
		}
	}
	for _, r := range h.Runs() {
		add(r.At, r.N)
	}
	for _, s := range h.Spans() {
		add(s.At, s.N)
	}
	for page, n := range count {
		if n != 1 {
			t.Fatalf("7.2: %s: page %d is in %d runs and spans", what, page, n)
		}
	}
}

// alloc calls Alloc on a heap and on its picture.
func alloc(t *testing.T, h *Heap, p picture, n, class int) {
	t.Helper()
	want, code := p.alloc(n, class)
	if at, e := h.Alloc(n, class); at != want || e != code {
		t.Fatalf("7.1, R2, R3: Alloc(%d, %d) is %d, %d, not %d, %d, with %v free", n, class, at, e, want, code, h.Runs())
	}
}

// free calls Free on a heap and on its picture.
func free(t *testing.T, h *Heap, p picture, at int) {
	t.Helper()
	want, code := p.free(at)
	if s, e := h.Free(at); s != want || e != code {
		t.Fatalf("7.1, R3: Free(%d) is %v, %d, not %v, %d", at, s, e, want, code)
	}
}

// made returns a heap of that many pages and its picture.
func made(t *testing.T, pages int) (*Heap, picture) {
	t.Helper()
	h := New(pages)
	if h == nil {
		t.Fatalf("7.1: New(%d) is nil", pages)
	}
	return h, make(picture, pages)
}

// cut returns a heap that spans of these sizes fill from page 0 on, with its picture.
func cut(t *testing.T, sizes ...int) (*Heap, picture) {
	t.Helper()
	pages := 0
	for _, n := range sizes {
		pages += n
	}
	h, p := made(t, pages)
	for i, n := range sizes {
		alloc(t, h, p, n, i%8)
	}
	return h, p
}

// gaps returns a heap of 32 pages with the free runs (2, 3), (9, 5), (16, 2), (27, 5), with its picture.
func gaps(t *testing.T) (*Heap, picture) {
	t.Helper()
	h, p := cut(t, 2, 3, 4, 5, 2, 2, 9, 5)
	for _, at := range []int{2, 9, 16, 27} {
		free(t, h, p, at)
	}
	want := []api.Run{{At: 2, N: 3}, {At: 9, N: 5}, {At: 16, N: 2}, {At: 27, N: 5}}
	if !slices.Equal(p.runs(), want) {
		t.Fatalf("the picture of the gaps is %v", p.runs())
	}
	return h, p
}

func TestExamples(t *testing.T) {
	h := New(256)
	if l := h.Runs(); !slices.Equal(l, []api.Run{{At: 0, N: 256}}) || h.Pages() != 256 {
		t.Errorf("7.1: New(256) has %v, %d", l, h.Pages())
	}
	if l := h.Spans(); len(l) != 0 {
		t.Errorf("7.1: a new heap has %v", l)
	}
	if s, ok := h.Of(7); s != (api.Span{}) || ok {
		t.Errorf("7.1: Of a page that was never allocated is %v, %t", s, ok)
	}
	if at, e := New(16).Alloc(17, 0); at != 0 || e != api.ErrFull {
		t.Errorf("7.1: Alloc(17, 0) in 16 pages is %d, %d", at, e)
	}
	if at, e := h.Alloc(8, 3); at != 0 || e != api.OK {
		t.Errorf("7.1: Alloc(8, 3) is %d, %d", at, e)
	}
	if s, e := h.Free(0); s != sp(0, 8, 3) || e != api.OK {
		t.Errorf("7.1: Free(0) is %v, %d", s, e)
	}
	if s, e := h.Free(0); s != (api.Span{}) || e != api.ErrNone {
		t.Errorf("7.1: a second Free(0) is %v, %d", s, e)
	}
	one := New(1)
	if l := one.Runs(); !slices.Equal(l, []api.Run{{At: 0, N: 1}}) || !one.Fits(1) || one.Fits(2) {
		t.Errorf("7.1: New(1) has %v, %t, %t", l, one.Fits(1), one.Fits(2))
	}
}

func TestNew(t *testing.T) {
	for pages := 1; pages <= 256; pages++ {
		h, p := made(t, pages)
		hold(t, h, p, "New")
		alloc(t, h, p, pages+1, 0)
		hold(t, h, p, "Alloc of one page more")
		alloc(t, h, p, pages, 7)
		hold(t, h, p, "Alloc of all pages")
		free(t, h, p, 0)
		hold(t, h, p, "Free of all pages")
	}
	for _, pages := range []int{0, -1, -2, -256, 257, 258, 512, 1 << 26, 1 << 32, 1<<32 + 1, 1 << 62, least, least + 1, most - 1, most} {
		if New(pages) != nil {
			t.Errorf("7.1: New(%d) is not nil", pages)
		}
	}
}

func TestAllocAtTheEnds(t *testing.T) {
	for _, pages := range []int{1, 2, 9, 255, 256} {
		for _, n := range numbers(pages) {
			for _, class := range []int{least, -1, 0, 3, 7, 8, most} {
				h, p := made(t, pages)
				alloc(t, h, p, n, class)
				hold(t, h, p, "Alloc in a new heap")
			}
		}
	}
}

func TestAllocOfEachClass(t *testing.T) {
	for _, class := range append(numbers(16), 4, 5, 6) {
		h, p := made(t, 16)
		alloc(t, h, p, 3, 1)
		alloc(t, h, p, 2, class)
		hold(t, h, p, "Alloc of a class")
		if _, ok := h.Of(3); ok != (class >= 0 && class <= 7) {
			t.Errorf("7.1: Alloc of class %d: Of(3) has %t", class, ok)
		}
	}
}

// TestAllocWrongAndFull asks wrongly where no free run has so many pages, either: ErrArg is named first.
func TestAllocWrongAndFull(t *testing.T) {
	full, all := cut(t, 4, 4, 8)
	some, part := gaps(t)
	for _, c := range []struct{ n, class int }{
		{17, 8}, {17, -1}, {6, 8}, {6, -1}, {1, 8}, {1, -1}, {1, least}, {1, most}, {most, 8}, {most, -1}, {most, most}, {most, least},
		{0, 0}, {-1, 0}, {least, 0}, {least, 7}, {0, 8}, {0, -1}, {-1, -1}, {least, least}, {least, most},
	} {
		if at, e := full.Alloc(c.n, c.class); at != 0 || e != api.ErrArg {
			t.Errorf("7.1, R2, R3: Alloc(%d, %d) in a full heap is %d, %d", c.n, c.class, at, e)
		}
		hold(t, full, all, "a wrong Alloc")
		if at, e := some.Alloc(c.n, c.class); at != 0 || e != api.ErrArg {
			t.Errorf("7.1, R2, R3: Alloc(%d, %d) in a heap with gaps is %d, %d", c.n, c.class, at, e)
		}
		hold(t, some, part, "a wrong Alloc")
	}
	for _, n := range []int{1, 2, 16, 17, 1 << 32, most} {
		if at, e := full.Alloc(n, 0); at != 0 || e != api.ErrFull {
			t.Errorf("7.1, R3: Alloc(%d, 0) in a full heap is %d, %d", n, at, e)
		}
		hold(t, full, all, "Alloc in a full heap")
	}
}

// TestAllocTogetherNotAlone asks for more pages than any free run has, but not more than all of them have.
func TestAllocTogetherNotAlone(t *testing.T) {
	h, p := gaps(t)
	for n := 6; n <= 15; n++ {
		if at, e := h.Alloc(n, 0); at != 0 || e != api.ErrFull || h.Fits(n) {
			t.Errorf("7.1: Alloc(%d, 0) is %d, %d, and Fits is %t", n, at, e, h.Fits(n))
		}
		hold(t, h, p, "Alloc of more than a run has")
	}
}

// TestAllocTakesTheFirstThatFits asks a heap with gaps for each number of pages.
func TestAllocTakesTheFirstThatFits(t *testing.T) {
	for n, want := range map[int]int{1: 2, 2: 2, 3: 2, 4: 9, 5: 9} {
		h, p := gaps(t)
		if at, e := h.Alloc(n, 6); at != want || e != api.OK {
			t.Errorf("7.1: Alloc(%d, 6) is %d, %d, not %d", n, at, e, want)
		}
		p.alloc(n, 6)
		hold(t, h, p, "Alloc in a gap")
	}
	h, p := gaps(t)
	for _, n := range []int{5, 2, 2, 1, 5, 1, 1} {
		alloc(t, h, p, n, n)
		hold(t, h, p, "Alloc in gaps")
	}
}

func TestAllocUntilFull(t *testing.T) {
	for _, pages := range []int{1, 7, 16, 100, 256} {
		for _, n := range []int{1, 2, 3, 8, 64, 256} {
			h, p := made(t, pages)
			for i := range pages / n {
				if at, e := h.Alloc(n, i%8); at != i*n || e != api.OK {
					t.Fatalf("7.1: Alloc number %d of %d pages is %d, %d", i, n, at, e)
				}
				p.alloc(n, i%8)
				hold(t, h, p, "Alloc again and again")
			}
			if at, e := h.Alloc(n, 0); at != 0 || e != api.ErrFull {
				t.Errorf("7.1, R3: the last Alloc of %d of %d pages is %d, %d", n, pages, at, e)
			}
			hold(t, h, p, "Alloc in what is left")
		}
	}
}

func TestFreeAtTheEnds(t *testing.T) {
	for _, at := range append(numbers(32), 4, 5, 10, 13, 14, 15, 16, 17, 18, 19, 20, 26, 27, 30, 31, 32) {
		h, p := gaps(t)
		free(t, h, p, at)
		hold(t, h, p, "Free")
		if s, e := h.Free(at); s != (api.Span{}) || e != api.ErrNone {
			t.Errorf("7.1, R3: a second Free(%d) is %v, %d", at, s, e)
		}
		hold(t, h, p, "a second Free")
	}
}

// TestFreeOfNoFirstPage frees each other page of a span that has all pages.
func TestFreeOfNoFirstPage(t *testing.T) {
	h, p := made(t, 256)
	alloc(t, h, p, 256, 5)
	for at := 1; at <= 256; at++ {
		if s, e := h.Free(at); s != (api.Span{}) || e != api.ErrNone {
			t.Errorf("7.1, R3: Free(%d) is %v, %d", at, s, e)
		}
	}
	hold(t, h, p, "Free of other pages")
	if s, e := h.Free(0); s != sp(0, 256, 5) || e != api.OK {
		t.Errorf("7.1: Free(0) is %v, %d", s, e)
	}
	hold(t, h, make(picture, 256), "Free of the span")
}

// orders are all orders of the numbers below n.
func orders(n int) [][]int {
	if n == 0 {
		return [][]int{{}}
	}
	all := [][]int{}
	for _, o := range orders(n - 1) {
		for i := 0; i <= len(o); i++ {
			all = append(all, slices.Insert(slices.Clone(o), i, n-1))
		}
	}
	return all
}

// TestFreeInAnyOrder has free runs on neither side, on either side and on both sides of what is freed.
func TestFreeInAnyOrder(t *testing.T) {
	firsts := []int{0, 2, 3, 7, 8, 13}
	for _, order := range orders(len(firsts)) {
		h, p := cut(t, 2, 1, 4, 1, 5, 3)
		for _, i := range order {
			free(t, h, p, firsts[i])
			hold(t, h, p, "Free in an order")
		}
		if l := h.Runs(); !slices.Equal(l, []api.Run{{At: 0, N: 16}}) || len(h.Spans()) != 0 {
			t.Errorf("7.2: after Free in order %v there are %v, %v", order, l, h.Spans())
		}
		alloc(t, h, p, 16, 0)
		hold(t, h, p, "Alloc of all that was freed")
	}
}

// TestFreeBetween frees a span between neighbours that are free or not.
func TestFreeBetween(t *testing.T) {
	for _, c := range []struct {
		first []int
		want  []api.Run
	}{
		{nil, []api.Run{{At: 6, N: 4}}},
		{[]int{4}, []api.Run{{At: 4, N: 6}}},
		{[]int{10}, []api.Run{{At: 6, N: 5}}},
		{[]int{4, 10}, []api.Run{{At: 4, N: 7}}},
		{[]int{0, 11}, []api.Run{{At: 0, N: 4}, {At: 6, N: 4}, {At: 11, N: 3}}},
		{[]int{0, 10, 11}, []api.Run{{At: 0, N: 4}, {At: 6, N: 8}}},
		{[]int{0, 4, 11}, []api.Run{{At: 0, N: 10}, {At: 11, N: 3}}},
	} {
		h, p := cut(t, 4, 2, 4, 1, 3)
		for _, at := range c.first {
			free(t, h, p, at)
		}
		free(t, h, p, 6)
		if l := h.Runs(); !slices.Equal(l, c.want) {
			t.Errorf("7.1, 7.2: after Free of %v and 6 the free runs are %v, not %v", c.first, l, c.want)
		}
		hold(t, h, p, "Free between")
	}
}

// TestPagesComeBack allocates freed pages again, in other spans.
func TestPagesComeBack(t *testing.T) {
	for _, again := range [][]int{{4}, {1, 3}, {3, 1}, {2, 2}, {1, 1, 1, 1}, {5}, {2, 3}} {
		h, p := cut(t, 4, 2, 4, 1, 3)
		free(t, h, p, 6)
		for i, n := range again {
			alloc(t, h, p, n, 7-i)
			hold(t, h, p, "Alloc again")
		}
	}
}

func TestOfAtTheEnds(t *testing.T) {
	h, p := gaps(t)
	for _, page := range append(numbers(32), 4, 5, 8, 9, 13, 14, 15, 16, 17, 18, 26, 27, 31, 32) {
		want, has := p.of(page)
		if s, ok := h.Of(page); s != want || ok != has {
			t.Errorf("7.1, R3: Of(%d) is %v, %t, not %v, %t", page, s, ok, want, has)
		}
	}
	hold(t, h, p, "Of")
}

func TestFitsAtTheEnds(t *testing.T) {
	h, p := gaps(t)
	for _, n := range append(numbers(32), 4, 5, 6, 15) {
		if want := n >= 1 && n <= 5; h.Fits(n) != want {
			t.Errorf("7.1: Fits(%d) is %t", n, !want)
		}
	}
	hold(t, h, p, "Fits")
}

// TestFitsIsWhatAllocTakes asks both for each number of pages, in heaps of all shapes of some spans.
func TestFitsIsWhatAllocTakes(t *testing.T) {
	firsts := []int{0, 2, 3, 7, 8, 13}
	for shape := range 1 << len(firsts) {
		for n := -1; n <= 17; n++ {
			h, p := cut(t, 2, 1, 4, 1, 5, 3)
			for i, at := range firsts {
				if shape>>i&1 == 1 {
					free(t, h, p, at)
				}
			}
			fits := h.Fits(n)
			if _, e := h.Alloc(n, 0); fits != (e == api.OK) {
				t.Errorf("7.1: Fits(%d) is %t, and Alloc returns %d", n, fits, e)
			}
			p.alloc(n, 0)
			hold(t, h, p, "Fits and Alloc")
		}
	}
}

// spoil writes over a list, over its spare capacity, and over what an append gives.
func spoil[T any](l []T, with T) {
	_ = append(l, with, with)
	whole := l[:cap(l)]
	for i := range whole {
		whole[i] = with
	}
}

// spoilAll spoils the lists of a heap.
func spoilAll(runs []api.Run, spans []api.Span) {
	spoil(runs, api.Run{At: -7, N: -7})
	spoil(spans, sp(-7, -7, -7))
}

func TestListsAreNewMemory(t *testing.T) {
	for _, build := range []func(*testing.T) (*Heap, picture){
		gaps,
		func(t *testing.T) (*Heap, picture) { return made(t, 16) },
		func(t *testing.T) (*Heap, picture) { return cut(t, 8, 4, 4) },
		func(t *testing.T) (*Heap, picture) {
			h, p := cut(t, 1, 1, 1, 1, 1, 1, 1, 1, 1)
			for at := 0; at < 9; at += 2 {
				free(t, h, p, at)
			}
			return h, p
		},
	} {
		h, p := build(t)
		runs, spans := h.Runs(), h.Spans()
		spoilAll(h.Runs(), h.Spans())
		hold(t, h, p, "R4: writing to the lists")
		if !slices.Equal(runs, p.runs()) || !slices.Equal(spans, p.spans()) {
			t.Error("R4: two lists share memory")
		}
		alloc(t, h, p, 1, 4)
		spoilAll(runs, spans)
		hold(t, h, p, "R4: writing to lists made before an Alloc")
		runs, spans = h.Runs(), h.Spans()
		free(t, h, p, p.spans()[0].At)
		spoilAll(runs, spans)
		hold(t, h, p, "R4: writing to lists made before a Free")
	}
}

func TestListsStayAsTheyWere(t *testing.T) {
	h, p := gaps(t)
	runs, spans := h.Runs(), h.Spans()
	wantRuns, wantSpans := p.runs(), p.spans()
	for _, n := range []int{1, 5, 2, 2} {
		alloc(t, h, p, n, 0)
	}
	for _, at := range []int{0, 5, 18, 14} {
		free(t, h, p, at)
	}
	if !slices.Equal(runs, wantRuns) || !slices.Equal(spans, wantSpans) {
		t.Errorf("R4: the lists became %v, %v", runs, spans)
	}
}

func TestTwoHeapsShareNothing(t *testing.T) {
	a, pa := made(t, 16)
	b, pb := made(t, 16)
	c, pc := made(t, 256)
	for i, n := range []int{3, 5, 2, 6} {
		alloc(t, a, pa, n, i)
		hold(t, b, pb, "R1: Alloc in another heap")
		hold(t, c, pc, "R1: Alloc in another heap")
	}
	alloc(t, b, pb, 16, 7)
	for _, at := range []int{3, 10, 0, 8} {
		free(t, a, pa, at)
		hold(t, a, pa, "R1: Free")
		hold(t, b, pb, "R1: Free in another heap")
		hold(t, c, pc, "R1: Free in another heap")
	}
}

// TestHistory holds many calls, chosen by a fixed rule, against the plain picture.
func TestHistory(t *testing.T) {
	seed := uint64(88172645463325252)
	pick := func(n int) int {
		seed ^= seed << 13
		seed ^= seed >> 7
		seed ^= seed << 17
		return int((seed >> 20) % uint64(n))
	}
	for _, pages := range []int{1, 5, 24, 256} {
		h, p := made(t, pages)
		for range 4000 {
			switch l := p.spans(); {
			case pick(4) == 0:
				free(t, h, p, pick(pages+4)-2)
			case pick(2) == 0 && len(l) > 0:
				free(t, h, p, l[pick(len(l))].At)
			default:
				alloc(t, h, p, pick(2+pages/6)-pick(2), pick(10)-1)
			}
			hold(t, h, p, "a step")
		}
		for l := p.spans(); len(l) > 0; l = p.spans() {
			free(t, h, p, l[pick(len(l))].At)
			hold(t, h, p, "a step of the end")
		}
		if l := h.Runs(); !slices.Equal(l, []api.Run{{At: 0, N: pages}}) {
			t.Errorf("7.2: when all spans are freed the free runs are %v", l)
		}
	}
}

func TestNil(t *testing.T) {
	var h *Heap
	if len(h.Runs()) != 0 || len(h.Spans()) != 0 || h.Pages() != 0 {
		t.Errorf("R6: Runs, Spans and Pages of nil are %v, %v, %d", h.Runs(), h.Spans(), h.Pages())
	}
	for _, n := range numbers(16) {
		if at, e := h.Alloc(n, 0); at != 0 || e != api.ErrNone {
			t.Errorf("R6: Alloc(%d, 0) of nil is %d, %d", n, at, e)
		}
		if at, e := h.Alloc(1, n); at != 0 || e != api.ErrNone {
			t.Errorf("R6: Alloc(1, %d) of nil is %d, %d", n, at, e)
		}
		if s, e := h.Free(n); s != (api.Span{}) || e != api.ErrNone {
			t.Errorf("R6: Free(%d) of nil is %v, %d", n, s, e)
		}
		if s, ok := h.Of(n); s != (api.Span{}) || ok {
			t.Errorf("R6: Of(%d) of nil is %v, %t", n, s, ok)
		}
		if h.Fits(n) {
			t.Errorf("R6: Fits(%d) of nil is true", n)
		}
	}
}

// TestZeroHeap tries a heap that New did not make: it has no pages, and no call on it panics (R1).
func TestZeroHeap(t *testing.T) {
	h := &Heap{}
	for _, n := range numbers(1) {
		alloc(t, h, picture{}, n, 0)
		alloc(t, h, picture{}, 1, n)
		free(t, h, picture{}, n)
	}
	hold(t, h, picture{}, "R1: calls on no pages")
}
