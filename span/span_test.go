package span

import (
	"math"
	"math/big"
	"slices"
	"testing"

	"rickyard/api"
)

const (
	least = math.MinInt64
	most  = math.MaxInt64
)

// numbers are those at the edges of a table of that many pages, just beyond, and far out.
func numbers(pages int) []int {
	return []int{
		least, least + 1, -1 << 62, -257, -256, -pages - 1, -pages, -2, -1,
		0, 1, 2, 3, 7, 8, 9, pages / 2, pages - 2, pages - 1, pages, pages + 1, 2 * pages, 255, 256, 257,
		1 << 31, 1 << 32, 1 << 62, most - pages, most - pages + 1, most - 1, most,
	}
}

// sp makes a span.
func sp(at, n, class int) api.Span {
	return api.Span{At: at, N: n, Class: class}
}

// wrong reports whether a span may not be in a table of that many pages; no sum here can wrap round.
func wrong(s api.Span, pages int) bool {
	end := new(big.Int).Add(big.NewInt(int64(s.At)), big.NewInt(int64(s.N)))
	return s.N < 1 || s.At < 0 || end.Cmp(big.NewInt(int64(pages))) > 0 || s.Class < 0 || s.Class > 7
}

// picture is the plain picture of a table: for each page the span that contains it, with N 0 if there is none.
type picture []api.Span

// add draws a span.
func (p picture) add(s api.Span) api.Errno {
	if wrong(s, len(p)) {
		return api.ErrArg
	}
	for i := range s.N {
		if p[s.At+i].N != 0 {
			return api.ErrTwice
		}
	}
	for i := range s.N {
		p[s.At+i] = s
	}
	return api.OK
}

// remove wipes a span out.
func (p picture) remove(at int) (api.Span, api.Errno) {
	s, ok := p.of(at)
	if !ok || s.At != at {
		return api.Span{}, api.ErrNone
	}
	for i := range s.N {
		p[at+i] = api.Span{}
	}
	return s, api.OK
}

// of reads the span of a page off the picture.
func (p picture) of(page int) (api.Span, bool) {
	if page < 0 || page >= len(p) || p[page].N == 0 {
		return api.Span{}, false
	}
	return p[page], true
}

// list reads all spans off the picture.
func (p picture) list() []api.Span {
	l := []api.Span{}
	for i, s := range p {
		if s.N != 0 && s.At == i {
			l = append(l, s)
		}
	}
	return l
}

// made returns a table with these spans.
func made(t *testing.T, pages int, spans ...api.Span) *Table {
	t.Helper()
	x := New(pages)
	if x == nil {
		t.Fatalf("6.1: New(%d) is nil", pages)
	}
	for _, s := range spans {
		if e := x.Add(s); e != api.OK {
			t.Fatalf("6.1: Add of %v to %d pages returns %d", s, pages, e)
		}
	}
	return x
}

// hold holds all that a table tells against its picture; what says which call comes before.
func hold(t *testing.T, x *Table, p picture, what string) {
	t.Helper()
	want := p.list()
	if got := x.List(); !slices.Equal(got, want) {
		t.Fatalf("6.2, R5: %s: List is %v, not %v", what, got, want)
	}
	if n := x.Len(); n != len(want) {
		t.Fatalf("6.2, R5: %s: Len is %d, not %d", what, n, len(want))
	}
	for page := -1; page <= len(p); page++ {
		s, ok := x.Of(page)
		if in, has := p.of(page); s != in || ok != has {
			t.Fatalf("6.2, 6.3, R5: %s: Of(%d) is %v, %t, not %v, %t", what, page, s, ok, in, has)
		}
	}
}

// drawn returns the picture of these spans.
func drawn(pages int, spans ...api.Span) picture {
	p := make(picture, pages)
	for _, s := range spans {
		p.add(s)
	}
	return p
}

func TestExamples(t *testing.T) {
	if New(0) != nil {
		t.Error("6.1: New(0) is not nil")
	}
	x := New(32)
	if len(x.List()) != 0 || x.Len() != 0 {
		t.Errorf("6.2: a new table has %v, %d", x.List(), x.Len())
	}
	if e := x.Add(sp(8, 8, 1)); e != api.OK {
		t.Errorf("6.1: Add returns %d", e)
	}
	if e := x.Add(sp(8, 8, 1)); e != api.ErrTwice {
		t.Errorf("6.1: a second Add of the same span returns %d", e)
	}
	if s, e := x.Remove(9); s != (api.Span{}) || e != api.ErrNone {
		t.Errorf("6.1: Remove(9) is %v, %d", s, e)
	}
	if s, ok := x.Of(15); s != sp(8, 8, 1) || !ok {
		t.Errorf("6.2: Of(15) is %v, %t", s, ok)
	}
	if s, ok := x.Of(16); s != (api.Span{}) || ok {
		t.Errorf("6.2: Of(16) is %v, %t", s, ok)
	}
}

func TestNew(t *testing.T) {
	for pages := 1; pages <= 256; pages++ {
		x := made(t, pages)
		hold(t, x, make(picture, pages), "New")
		if e := x.Add(sp(0, pages+1, 0)); e != api.ErrArg {
			t.Errorf("6.1: Add of %d pages to New(%d) returns %d", pages+1, pages, e)
		}
		if e := x.Add(sp(0, pages, 0)); e != api.OK {
			t.Errorf("6.1: Add of all pages to New(%d) returns %d", pages, e)
		}
	}
	for _, pages := range []int{0, -1, -2, -256, 257, 258, 512, 1 << 26, 1 << 32, 1<<32 + 1, 1 << 62, least, least + 1, most - 1, most} {
		if New(pages) != nil {
			t.Errorf("6.1: New(%d) is not nil", pages)
		}
	}
}

func TestAddAtTheEnds(t *testing.T) {
	for _, pages := range []int{1, 2, 9, 255, 256} {
		for _, at := range numbers(pages) {
			for _, n := range numbers(pages) {
				x := made(t, pages)
				p := make(picture, pages)
				want := p.add(sp(at, n, 3))
				if e := x.Add(sp(at, n, 3)); e != want {
					t.Errorf("6.1: Add of At %d, N %d to %d pages returns %d, not %d", at, n, pages, e, want)
				}
				hold(t, x, p, "Add")
			}
		}
	}
}

func TestAddOfEachClass(t *testing.T) {
	for _, class := range append(numbers(16), 4, 5, 6) {
		x := made(t, 16)
		p := make(picture, 16)
		want := p.add(sp(5, 2, class))
		if want == api.ErrArg == (class >= 0 && class <= 7) {
			t.Fatalf("the picture takes class %d for another", class)
		}
		if e := x.Add(sp(5, 2, class)); e != want {
			t.Errorf("6.1: Add of class %d returns %d, not %d", class, e, want)
		}
		hold(t, x, p, "Add")
	}
}

// TestAddWrongAndTwice adds spans that are wrong and have a page in common with another one: ErrArg is named first.
func TestAddWrongAndTwice(t *testing.T) {
	there := []api.Span{sp(0, 2, 0), sp(8, 4, 1), sp(14, 2, 2)}
	x := made(t, 16, there...)
	for _, s := range []api.Span{
		sp(8, 4, 8), sp(8, 4, -1), sp(9, 1, least), sp(9, 1, most), sp(14, 2, 8), sp(0, 2, -1),
		sp(14, 3, 2), sp(8, 9, 1), sp(15, 2, 0), sp(0, 17, 0), sp(8, most, 0), sp(0, most, 0), sp(14, most, 0),
		sp(8, 0, 1), sp(9, 0, 0), sp(8, -1, 1), sp(9, least, 0), sp(12, -4, 0), sp(14, -1, 0),
		sp(-1, 2, 0), sp(-1, 3, 0), sp(-1, 17, 0), sp(-1, 18, 0), sp(least, most, 0), sp(least, least, 0), sp(most, most, 0),
	} {
		if e := x.Add(s); e != api.ErrArg {
			t.Errorf("6.1, R2: Add of %v returns %d", s, e)
		}
		hold(t, x, drawn(16, there...), "a wrong Add")
	}
}

// TestAddTwice adds every span that lies in a small table to every one that is there: beside, equal, within, around, across either end.
func TestAddTwice(t *testing.T) {
	const pages = 9
	for at := range pages {
		for n := 1; at+n <= pages; n++ {
			for to := range pages {
				for m := 1; to+m <= pages; m++ {
					x := made(t, pages, sp(at, n, 1))
					p := drawn(pages, sp(at, n, 1))
					common := to < at+n && at < to+m
					want := p.add(sp(to, m, 2))
					if want == api.ErrTwice != common {
						t.Fatalf("the picture takes (%d, %d) and (%d, %d) wrongly", at, n, to, m)
					}
					if e := x.Add(sp(to, m, 2)); e != want {
						t.Errorf("6.1: Add of (%d, %d) beside (%d, %d) returns %d", to, m, at, n, e)
					}
					hold(t, x, p, "Add")
				}
			}
		}
	}
}

// TestAddAmongMany adds spans at, between and across those of a table that has several.
func TestAddAmongMany(t *testing.T) {
	there := []api.Span{sp(1, 2, 0), sp(3, 1, 7), sp(6, 3, 2), sp(12, 2, 4), sp(15, 1, 5)}
	for at := range 16 {
		for n := 1; at+n <= 16; n++ {
			x := made(t, 16, there...)
			p := drawn(16, there...)
			want := p.add(sp(at, n, 3))
			if e := x.Add(sp(at, n, 3)); e != want {
				t.Errorf("6.1: Add of (%d, %d) returns %d, not %d", at, n, e, want)
			}
			hold(t, x, p, "Add")
		}
	}
}

func TestRemove(t *testing.T) {
	there := []api.Span{sp(0, 1, 6), sp(1, 4, 0), sp(8, 8, 1), sp(16, 4, 2), sp(31, 1, 7)}
	for _, at := range append(numbers(32), 4, 5, 10, 15, 16, 17, 19, 20, 30) {
		x := made(t, 32, there...)
		p := drawn(32, there...)
		want, code := p.remove(at)
		if s, e := x.Remove(at); s != want || e != code {
			t.Errorf("6.1, R3: Remove(%d) is %v, %d, not %v, %d", at, s, e, want, code)
		}
		hold(t, x, p, "Remove")
		if s, e := x.Remove(at); s != (api.Span{}) || e != api.ErrNone {
			t.Errorf("6.1, R3: a second Remove(%d) is %v, %d", at, s, e)
		}
		hold(t, x, p, "a second Remove")
	}
}

func TestRemoveOfAllPages(t *testing.T) {
	x := made(t, 256, sp(0, 256, 7))
	for at := 1; at <= 256; at++ {
		if s, e := x.Remove(at); s != (api.Span{}) || e != api.ErrNone {
			t.Errorf("6.1, R3: Remove(%d) is %v, %d", at, s, e)
		}
	}
	hold(t, x, drawn(256, sp(0, 256, 7)), "Remove of other pages")
	if s, e := x.Remove(0); s != sp(0, 256, 7) || e != api.OK {
		t.Errorf("6.1: Remove(0) is %v, %d", s, e)
	}
	hold(t, x, make(picture, 256), "Remove")
	if s, e := x.Remove(0); s != (api.Span{}) || e != api.ErrNone {
		t.Errorf("6.1, R3: Remove(0) of an empty table is %v, %d", s, e)
	}
}

// TestPagesComeBack adds the pages of a removed span again, in other spans.
func TestPagesComeBack(t *testing.T) {
	for _, again := range [][]api.Span{
		{sp(8, 8, 1)}, {sp(8, 8, 2)}, {sp(8, 4, 0), sp(12, 4, 0)}, {sp(15, 1, 3), sp(8, 1, 3)}, {sp(4, 12, 6)}, {sp(9, 6, 6)}, {sp(7, 2, 6), sp(10, 6, 5)},
	} {
		x := made(t, 32, sp(16, 8, 2), sp(8, 8, 1), sp(0, 4, 0))
		p := drawn(32, sp(16, 8, 2), sp(0, 4, 0))
		if s, e := x.Remove(8); s != sp(8, 8, 1) || e != api.OK {
			t.Errorf("6.1: Remove(8) is %v, %d", s, e)
		}
		hold(t, x, p, "Remove")
		for _, s := range again {
			p.add(s)
			if e := x.Add(s); e != api.OK {
				t.Errorf("6.3: Add of %v, whose pages are in no span any more, returns %d", s, e)
			}
			hold(t, x, p, "Add again")
		}
	}
}

func TestOfAtTheEnds(t *testing.T) {
	for _, pages := range []int{1, 9, 256} {
		for _, s := range []api.Span{sp(0, 1, 0), sp(pages-1, 1, 7), sp(0, pages, 3), sp(pages/2, pages-pages/2, 0)} {
			x := made(t, pages, s)
			p := drawn(pages, s)
			for _, page := range append(numbers(pages), s.At-1, s.At, s.At+1, s.At+s.N-1, s.At+s.N) {
				want, has := p.of(page)
				if got, ok := x.Of(page); got != want || ok != has {
					t.Errorf("6.2, R3: Of(%d) beside %v of %d pages is %v, %t", page, s, pages, got, ok)
				}
			}
		}
	}
}

// orders are all orders of the numbers below n.
func orders(n int) [][]int {
	if n == 0 {
		return [][]int{{}}
	}
	all := [][]int{}
	for _, o := range orders(n - 1) {
		for i := 0; i <= len(o); i++ {
			all = append(all, slices.Insert(slices.Clone(o), i, n-1))
		}
	}
	return all
}

func TestListIsAscending(t *testing.T) {
	there := []api.Span{sp(0, 2, 7), sp(2, 1, 0), sp(5, 3, 6), sp(9, 4, 1), sp(15, 1, 3)}
	for _, order := range orders(len(there)) {
		x := made(t, 16)
		p := make(picture, 16)
		for _, i := range order {
			p.add(there[i])
			if e := x.Add(there[i]); e != api.OK {
				t.Errorf("6.1: Add in order %v returns %d", order, e)
			}
			hold(t, x, p, "Add")
		}
		if got := x.List(); !slices.Equal(got, there) {
			t.Errorf("6.2: List after Add in order %v is %v", order, got)
		}
		for i, at := range order {
			p.remove(there[at].At)
			if s, e := x.Remove(there[at].At); s != there[at] || e != api.OK {
				t.Errorf("6.1: Remove number %d in order %v is %v, %d", i, order, s, e)
			}
			hold(t, x, p, "Remove")
		}
	}
}

// TestManySpans fills a table page by page from the end, and empties it from the middle.
func TestManySpans(t *testing.T) {
	x := made(t, 256)
	p := make(picture, 256)
	for at := 255; at >= 0; at-- {
		p.add(sp(at, 1, at%8))
		if e := x.Add(sp(at, 1, at%8)); e != api.OK {
			t.Errorf("6.1: Add of page %d returns %d", at, e)
		}
	}
	hold(t, x, p, "Add of 256 spans")
	for i := range 256 {
		at := (i + 128) % 256
		p.remove(at)
		if s, e := x.Remove(at); s != sp(at, 1, at%8) || e != api.OK {
			t.Errorf("6.1: Remove(%d) is %v, %d", at, s, e)
		}
		hold(t, x, p, "Remove of one of 256 spans")
	}
}

// spoil writes over a list, over its spare capacity, and over what an append gives.
func spoil(l []api.Span) {
	_ = append(l, sp(-7, -7, -7), sp(-7, -7, -7))
	whole := l[:cap(l)]
	for i := range whole {
		whole[i] = sp(-7, -7, -7)
	}
}

func TestListIsNewMemory(t *testing.T) {
	there := []api.Span{sp(0, 2, 7), sp(2, 1, 0), sp(5, 3, 6), sp(9, 4, 1), sp(15, 1, 3)}
	for n := 0; n <= len(there); n++ {
		x := made(t, 16, there[:n]...)
		p := drawn(16, there[:n]...)
		first, second := x.List(), x.List()
		spoil(first)
		hold(t, x, p, "R4: writing to a List")
		if !slices.Equal(second, there[:n]) {
			t.Errorf("R4: two Lists of %d spans share memory", n)
		}
		// What is behind a list must not become the table's next span.
		p.add(sp(14, 1, 2))
		x.Add(sp(14, 1, 2))
		spoil(second)
		hold(t, x, p, "R4: writing to a List made before an Add")
	}
}

func TestListStaysAsItWas(t *testing.T) {
	there := []api.Span{sp(0, 2, 7), sp(2, 1, 0), sp(5, 3, 6), sp(9, 4, 1)}
	x := made(t, 16, there...)
	l := x.List()
	x.Remove(0)
	x.Add(sp(0, 1, 1))
	x.Remove(5)
	x.Add(sp(15, 1, 1))
	if !slices.Equal(l, there) {
		t.Errorf("R4: later calls show in a List: %v", l)
	}
}

func TestTablesShareNothing(t *testing.T) {
	a := made(t, 16, sp(0, 4, 1), sp(8, 2, 3))
	b := made(t, 16)
	hold(t, b, make(picture, 16), "R1: calls on another table")
	b.Add(sp(2, 8, 5))
	b.Add(sp(15, 1, 0))
	b.Remove(2)
	hold(t, a, drawn(16, sp(0, 4, 1), sp(8, 2, 3)), "R1: calls on another table")
	a.Remove(0)
	a.Remove(8)
	hold(t, b, drawn(16, sp(15, 1, 0)), "R1: calls on another table")
}

// TestHistory holds many calls, chosen by a fixed rule, against the plain picture.
func TestHistory(t *testing.T) {
	seed := uint64(88172645463325252)
	pick := func(n int) int {
		seed ^= seed << 13
		seed ^= seed >> 7
		seed ^= seed << 17
		return int((seed >> 20) % uint64(n))
	}
	for _, pages := range []int{1, 5, 24, 256} {
		x := made(t, pages)
		p := make(picture, pages)
		for step := range 4000 {
			at := pick(pages+4) - 2
			if step%3 == 0 {
				want, code := p.remove(at)
				if s, e := x.Remove(at); s != want || e != code {
					t.Fatalf("6.1: step %d: Remove(%d) is %v, %d, not %v, %d", step, at, s, e, want, code)
				}
			} else {
				s := sp(at, pick(7)-1, pick(10)-1)
				code := p.add(s)
				if e := x.Add(s); e != code {
					t.Fatalf("6.1: step %d: Add of %v returns %d, not %d", step, s, e, code)
				}
			}
			hold(t, x, p, "a step")
		}
	}
}

func TestNil(t *testing.T) {
	var x *Table
	if l := x.List(); len(l) != 0 || x.Len() != 0 {
		t.Errorf("R6: List and Len of nil are %v, %d", l, x.Len())
	}
	for _, n := range numbers(16) {
		if e := x.Add(sp(n, 1, 0)); e != api.ErrNone {
			t.Errorf("R6: Add at %d to nil returns %d", n, e)
		}
		if e := x.Add(sp(0, n, 0)); e != api.ErrNone {
			t.Errorf("R6: Add of %d pages to nil returns %d", n, e)
		}
		if e := x.Add(sp(0, 1, n)); e != api.ErrNone {
			t.Errorf("R6: Add of class %d to nil returns %d", n, e)
		}
		if s, e := x.Remove(n); s != (api.Span{}) || e != api.ErrNone {
			t.Errorf("R6: Remove(%d) of nil is %v, %d", n, s, e)
		}
		if s, ok := x.Of(n); s != (api.Span{}) || ok {
			t.Errorf("R6: Of(%d) of nil is %v, %t", n, s, ok)
		}
	}
}

// TestZeroTable tries a table that New did not make: it has no pages, and no call on it panics (R1).
func TestZeroTable(t *testing.T) {
	x := &Table{}
	if e := x.Add(sp(0, 1, 0)); e != api.ErrArg {
		t.Errorf("6.1: Add to no pages returns %d", e)
	}
	if _, e := x.Remove(0); e != api.ErrNone {
		t.Errorf("6.1: Remove(0) of no pages returns %d", e)
	}
	hold(t, x, picture{}, "R1: calls on no pages")
}
