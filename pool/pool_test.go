package pool

import (
	"fmt"
	"math"
	"slices"
	"testing"

	"rickyard/api"
	"rickyard/arena"
)

const (
	least = math.MinInt64
	most  = math.MaxInt64
)

// words and per are the words of a stack and the stacks of a span, for each small class, by the table of chapter 8.
var (
	words = []int{32, 64, 128, 256}
	per   = []int{16, 8, 4, 2}
)

// numbers are those at the edges of n pages or words, just beyond, and far out.
func numbers(n int) []int {
	return []int{
		least, least + 1, least + 7, least + 8, -1 << 62, -1 << 32, -n - 1, -n, -512, -256, -64, -32, -8, -7, -2, -1,
		0, 1, 2, 7, 8, 9, 31, 32, 33, n / 2, n - 9, n - 8, n - 7, n - 1, n, n + 1, 2 * n,
		1 << 31, 1 << 32, 1<<32 + 32, 1 << 57, 1 << 58, 1 << 62, most - 512, most - 8, most - 7, most - 1, most,
	}
}

// patterned returns an arena whose words differ from each other; none of them is a head.
func patterned(t *testing.T, pages int) *arena.Arena {
	t.Helper()
	a := arena.New(pages)
	for at := range a.Len() {
		if e := a.Store(at, 0xf00d<<48|uint64(at)*2654435761+1); e != api.OK {
			t.Fatalf("3.1: Store(%d) returns %d", at, e)
		}
	}
	return a
}

// all returns the words of an arena.
func all(t *testing.T, a *arena.Arena) []uint64 {
	t.Helper()
	list, e := a.Slice(0, a.Len())
	if e != api.OK {
		t.Fatalf("3.1: Slice of all words returns %d", e)
	}
	return list
}

// drawn is a span as the picture has it: its first page, and its free stacks in the order of its chain.
type drawn struct {
	page int
	free []int
}

// picture is the plain picture of a pool: its class, its spans in any order, and the words of its arena.
type picture struct {
	class int
	spans []drawn
	words []uint64
}

// of returns the span that has a page.
func (p *picture) of(page int) (int, bool) {
	for i, s := range p.spans {
		if page >= s.page && page <= s.page+7 {
			return i, true
		}
	}
	return 0, false
}

// chained writes the chain of a span into the words.
func (p *picture) chained(s drawn) {
	for i, at := range s.free {
		p.words[at] = 0
		if i+1 < len(s.free) {
			p.words[at] = uint64(s.free[i+1] + 1)
		}
	}
}

// add draws a span.
func (p *picture) add(page int) api.Errno {
	if page < 0 || page >= len(p.words)/64 || page+8 > len(p.words)/64 {
		return api.ErrArg
	}
	for i := range 8 {
		if _, ok := p.of(page + i); ok {
			return api.ErrTwice
		}
	}
	s := drawn{page: page}
	for i := range per[p.class] {
		s.free = append(s.free, 64*page+i*words[p.class])
	}
	p.chained(s)
	p.spans = append(p.spans, s)
	return api.OK
}

// take wipes a free stack out.
func (p *picture) take() (int, api.Errno) {
	low := -1
	for i, s := range p.spans {
		if len(s.free) > 0 && (low < 0 || s.page < p.spans[low].page) {
			low = i
		}
	}
	if low < 0 {
		return 0, api.ErrNone
	}
	at := p.spans[low].free[0]
	p.spans[low].free = slices.Delete(p.spans[low].free, 0, 1)
	return at, api.OK
}

// put draws a free stack.
func (p *picture) put(at int) (int, bool, api.Errno) {
	if at < 0 || at >= len(p.words) {
		return 0, false, api.ErrArg
	}
	i, ok := p.of(at / 64)
	if !ok || (at-64*p.spans[i].page)%words[p.class] != 0 {
		return 0, false, api.ErrArg
	}
	s := &p.spans[i]
	if slices.Contains(s.free, at) {
		return 0, false, api.ErrTwice
	}
	page := s.page
	s.free = slices.Insert(s.free, 0, at)
	p.chained(*s)
	gone := len(s.free) == per[p.class]
	if gone {
		p.spans = slices.Delete(p.spans, i, i+1)
	}
	return page, gone, api.OK
}

// sorted returns the spans in ascending order.
func (p *picture) sorted() []drawn {
	return slices.SortedFunc(slices.Values(p.spans), func(a, b drawn) int { return a.page - b.page })
}

// yard is a pool, its arena, and the picture of both.
type yard struct {
	*testing.T
	p    *Pool
	a    *arena.Arena
	draw *picture
}

// made returns a pool of a class in an arena of that many pages.
func made(t *testing.T, class, pages int) *yard {
	t.Helper()
	p := New(class)
	if p == nil {
		t.Fatalf("10.1: New(%d) is nil", class)
	}
	a := patterned(t, pages)
	y := &yard{t, p, a, &picture{class: class, words: all(t, a)}}
	y.hold("New")
	return y
}

// hold holds all that a pool tells, and all words, against the picture; what says which call comes before.
func (y *yard) hold(what string) {
	y.Helper()
	spans, free := []api.Part{}, []int{}
	for _, s := range y.draw.sorted() {
		spans = append(spans, api.Part{Page: s.page, Free: len(s.free)})
		free = append(free, s.free...)
	}
	if got := y.p.Spans(); !slices.Equal(got, spans) {
		y.Fatalf("10.2, R5: %s in class %d: Spans is %v, not %v", what, y.draw.class, got, spans)
	}
	if got := y.p.Free(y.a); !slices.Equal(got, free) {
		y.Fatalf("10.2, R5: %s in class %d: Free is %v, not %v", what, y.draw.class, got, free)
	}
	if got := y.p.Len(); got != len(free) {
		y.Fatalf("10.2, R5: %s in class %d: Len is %d, not %d", what, y.draw.class, got, len(free))
	}
	for at, w := range all(y.T, y.a) {
		if w != y.draw.words[at] {
			y.Fatalf("10.1, 10.2, R5: %s in class %d: the word %d is %#x, not %#x", what, y.draw.class, at, w, y.draw.words[at])
		}
	}
}

// add calls Add on a pool and on its picture, and returns what both return.
func (y *yard) add(page int) api.Errno {
	y.Helper()
	want := y.draw.add(page)
	if e := y.p.Add(y.a, page); e != want {
		y.Fatalf("10.1, R2: Add(%d) to class %d in %d pages is %d, not %d", page, y.draw.class, y.a.Pages(), e, want)
	}
	y.hold(fmt.Sprintf("Add(%d)", page))
	return want
}

// take calls Take on a pool and on its picture, and returns what both return.
func (y *yard) take() (int, api.Errno) {
	y.Helper()
	want, code := y.draw.take()
	if at, e := y.p.Take(y.a); at != want || e != code {
		y.Fatalf("10.1, R3: Take from class %d is %d, %d, not %d, %d", y.draw.class, at, e, want, code)
	}
	y.hold("Take")
	return want, code
}

// put calls Put on a pool and on its picture, and returns what both return.
func (y *yard) put(at int) (int, bool, api.Errno) {
	y.Helper()
	want, last, code := y.draw.put(at)
	if page, gone, e := y.p.Put(y.a, at); page != want || gone != last || e != code {
		y.Fatalf("10.1, R2, R3: Put(%d) to class %d is %d, %t, %d, not %d, %t, %d", at, y.draw.class, page, gone, e, want, last, code)
	}
	y.hold(fmt.Sprintf("Put(%d)", at))
	return want, last, code
}

// mustAdd adds spans that the pool has room for.
func (y *yard) mustAdd(pages ...int) {
	y.Helper()
	for _, page := range pages {
		if e := y.add(page); e != api.OK {
			y.Fatalf("10.1: Add(%d) is %d", page, e)
		}
	}
}

// mustTake takes that many stacks and returns them.
func (y *yard) mustTake(n int) []int {
	y.Helper()
	list := []int{}
	for range n {
		at, e := y.take()
		if e != api.OK {
			y.Fatalf("10.1: Take number %d is %d", len(list)+1, e)
		}
		list = append(list, at)
	}
	return list
}

// mustPut puts a stack and holds what Put tells against page and gone.
func (y *yard) mustPut(at, page int, gone bool) {
	y.Helper()
	if got, last, e := y.put(at); got != page || last != gone || e != api.OK {
		y.Fatalf("10.1: Put(%d) is %d, %t, %d, not %d, %t, 0", at, got, last, e, page, gone)
	}
}

// refuses puts at an address, which must be refused with that code.
func (y *yard) refuses(at int, code api.Errno) {
	y.Helper()
	if page, gone, e := y.put(at); page != 0 || gone || e != code {
		y.Fatalf("10.1, R3: Put(%d) is %d, %t, %d, not 0, false, %d", at, page, gone, e, code)
	}
}

func TestExamples(t *testing.T) {
	if New(4) != nil {
		t.Error("10.1: New(4) is not nil")
	}
	p, a := New(3), arena.New(8)
	if s, n := p.Spans(), p.Len(); len(s) != 0 || n != 0 {
		t.Errorf("10.2: a new pool has the spans %v and %d free stacks", s, n)
	}
	if e := p.Add(a, 0); e != api.OK {
		t.Errorf("10.1: Add(0) is %d", e)
	}
	if e := p.Add(a, 0); e != api.ErrTwice {
		t.Errorf("10.1: the second Add(0) is %d", e)
	}
	if l := p.Free(a); !slices.Equal(l, []int{0, 256}) {
		t.Errorf("10.2: Free after Add(0) is %v", l)
	}
	for _, want := range []int{0, 256} {
		if at, e := p.Take(a); at != want || e != api.OK {
			t.Errorf("10.1: Take is %d, %d, not %d, 0", at, e, want)
		}
	}
	if at, e := p.Take(a); at != 0 || e != api.ErrNone {
		t.Errorf("10.1: the third Take is %d, %d", at, e)
	}
	if page, gone, e := p.Put(a, 256); page != 0 || gone || e != api.OK {
		t.Errorf("10.1: the first Put is %d, %t, %d", page, gone, e)
	}
	if page, gone, e := p.Put(a, 0); page != 0 || !gone || e != api.OK {
		t.Errorf("10.1: the second Put is %d, %t, %d", page, gone, e)
	}
}

func TestNew(t *testing.T) {
	for class := range 4 {
		y := made(t, class, 8)
		if at, e := y.take(); at != 0 || e != api.ErrNone {
			t.Errorf("10.1: Take from a new pool of class %d is %d, %d", class, at, e)
		}
		for _, at := range numbers(512) {
			y.refuses(at, api.ErrArg)
		}
		y.mustAdd(0)
		if n := y.p.Len(); n != per[class] {
			t.Errorf("10.1: a span of class %d has %d stacks", class, n)
		}
	}
	for _, class := range []int{least, least + 1, -1 << 32, -8, -4, -1, 4, 5, 6, 7, 8, 9, 1 << 32, 1<<32 + 3, most - 1, most} {
		if New(class) != nil {
			t.Errorf("10.1: New(%d) is not nil", class)
		}
	}
}

func TestAddAtTheEdges(t *testing.T) {
	for class := range 4 {
		for _, pages := range []int{1, 7, 8, 9, 15, 16, 17, 256} {
			for _, page := range numbers(pages) {
				y := made(t, class, pages)
				fits := page >= 0 && page <= pages-8
				if e := y.add(page); (e == api.OK) != fits || (e == api.ErrArg) == fits {
					t.Errorf("10.1: Add(%d) in %d pages is %d", page, pages, e)
				}
			}
		}
	}
}

func TestAddWithoutRoom(t *testing.T) {
	for pages := 1; pages < 8; pages++ {
		y := made(t, 2, pages)
		for page := -9; page <= 9; page++ {
			if e := y.add(page); e != api.ErrArg {
				t.Errorf("10.1: Add(%d) in %d pages is %d", page, pages, e)
			}
		}
	}
}

func TestAddLaysTheChain(t *testing.T) {
	for class := range 4 {
		y := made(t, class, 24)
		before := all(t, y.a)
		y.mustAdd(9)
		for at, w := range all(t, y.a) {
			want := before[at]
			switch off := at - 9*64; {
			case off < 0 || off >= 512 || off%words[class] != 0:
			case off == 512-words[class]:
				want = 0
			default:
				want = uint64(at + words[class] + 1)
			}
			if w != want {
				t.Fatalf("10.1: after Add(9) to class %d the word %d is %#x, not %#x", class, at, w, want)
			}
		}
	}
}

func TestAddOfPagesInCommon(t *testing.T) {
	for class := range 4 {
		for page := range 25 {
			y := made(t, class, 32)
			y.mustAdd(12)
			want := api.ErrTwice
			if page <= 4 || page >= 20 {
				want = api.OK
			}
			if e := y.add(page); e != want {
				t.Errorf("10.1: Add(%d) beside the span at 12 is %d, not %d", page, e, want)
			}
		}
	}
}

func TestAddBetweenSpans(t *testing.T) {
	y := made(t, 1, 64)
	y.mustAdd(8, 40, 24)
	for _, page := range []int{8, 24, 40, 1, 15, 17, 31, 33, 47} {
		if e := y.add(page); e != api.ErrTwice {
			t.Errorf("10.1: Add(%d) is %d", page, e)
		}
	}
	for _, page := range []int{32, 16, 0, 48, 56} {
		y.mustAdd(page)
	}
	if e := y.add(57); e != api.ErrArg {
		t.Errorf("10.1, R2: Add(57) is %d", e)
	}
}

func TestAddWhenAllAreTaken(t *testing.T) {
	for class := range 4 {
		y := made(t, class, 16)
		y.mustAdd(4)
		y.mustTake(per[class])
		for page := 0; page <= 8; page++ {
			if e := y.add(page); e != api.ErrTwice {
				t.Errorf("10.1: Add(%d) beside a span without a free stack is %d", page, e)
			}
		}
	}
}

func TestTakeFromOneSpan(t *testing.T) {
	for class := range 4 {
		for _, page := range []int{0, 3, 8} {
			y := made(t, class, 16)
			y.mustAdd(page)
			for i, at := range y.mustTake(per[class]) {
				if at != 64*page+i*words[class] {
					t.Errorf("10.1: Take number %d from class %d is %d", i+1, class, at)
				}
			}
			for range 2 {
				if at, e := y.take(); at != 0 || e != api.ErrNone {
					t.Errorf("10.1, R3: Take from no free stack is %d, %d", at, e)
				}
			}
		}
	}
}

func TestTakeFromTheLowestSpan(t *testing.T) {
	orders := [][]int{{0, 8, 16}, {0, 16, 8}, {8, 0, 16}, {8, 16, 0}, {16, 0, 8}, {16, 8, 0}, {1, 17, 9}, {16, 2}}
	for class := range 4 {
		for _, pages := range orders {
			y := made(t, class, 25)
			y.mustAdd(pages...)
			list := y.mustTake(len(pages) * per[class])
			if !slices.IsSorted(list) {
				t.Errorf("10.1: after Add of %v to class %d, Take goes by %v", pages, class, list)
			}
			if at, e := y.take(); at != 0 || e != api.ErrNone {
				t.Errorf("10.1: Take from no free stack is %d, %d", at, e)
			}
		}
	}
}

func TestTakeGoesBackToALowerSpan(t *testing.T) {
	for class := range 4 {
		y := made(t, class, 32)
		y.mustAdd(16)
		y.mustTake(1)
		y.mustAdd(8)
		list := y.mustTake(per[class] + 1)
		y.mustPut(list[0], 8, false)
		if got := y.mustTake(1); got[0] != list[0] {
			t.Errorf("10.1: Take from the lowest span is %d, not %d", got[0], list[0])
		}
		y.mustAdd(0)
		if got := y.mustTake(1); got[0] != 0 {
			t.Errorf("10.1: Take from a lower span is %d", got[0])
		}
	}
}

func TestPutAtTheEdges(t *testing.T) {
	for class := range 4 {
		for _, i := range []int{0, 1, per[class] - 1} {
			y := made(t, class, 24)
			y.mustAdd(8)
			list := y.mustTake(per[class])
			y.mustPut(list[i], 8, false)
			y.refuses(list[i], api.ErrTwice)
			if got := y.mustTake(1); got[0] != list[i] {
				t.Errorf("10.1: Take after Put(%d) is %d", list[i], got[0])
			}
		}
	}
}

func TestPutWhereNoStackBegins(t *testing.T) {
	for class := range 4 {
		y := made(t, class, 40)
		y.mustAdd(8, 24)
		y.mustTake(per[class] + 1)
		for at := -600; at <= y.a.Len()+600; at++ {
			inside := at >= 512 && at < 1024 || at >= 1536 && at < 2048
			if !inside || at%words[class] != 0 {
				y.fastRefuses(at)
			}
		}
		for _, at := range numbers(y.a.Len()) {
			if at < 512 || at >= 2048 {
				y.refuses(at, api.ErrArg)
			}
		}
		y.hold("refused Puts")
	}
}

// fastRefuses puts where no stack begins; what the pool tells is held later, once for all.
func (y *yard) fastRefuses(at int) {
	y.Helper()
	if page, gone, e := y.p.Put(y.a, at); page != 0 || gone || e != api.ErrArg {
		y.Fatalf("10.1, R3: Put(%d) to class %d is %d, %t, %d, not 0, false, 1", at, y.draw.class, page, gone, e)
	}
}

func TestPutFarOut(t *testing.T) {
	for class := range 4 {
		y := made(t, class, 256)
		y.mustAdd(0, 248, 120)
		y.mustTake(3 * per[class])
		for _, base := range []int{least, -1 << 62, -1 << 32, 1 << 32, 1 << 57, 1 << 62, most - 511} {
			for _, off := range []int{0, 1, words[class], 511 - words[class], 511} {
				y.refuses(base+off, api.ErrArg)
			}
		}
	}
}

func TestPutOfFreeStacks(t *testing.T) {
	for class := range 4 {
		y := made(t, class, 24)
		y.mustAdd(0, 8, 16)
		list := y.mustTake(per[class] + 1)
		for _, at := range y.p.Free(y.a) {
			y.refuses(at, api.ErrTwice)
		}
		y.mustPut(list[0], 0, false)
		y.refuses(list[0], api.ErrTwice)
		y.refuses(16*64, api.ErrTwice)
		y.refuses(24*64-words[class], api.ErrTwice)
		y.refuses(24*64, api.ErrArg)
	}
}

func TestPutOfWhatWasNeverTaken(t *testing.T) {
	for class := range 4 {
		y := made(t, class, 8)
		y.mustAdd(0)
		for i := range per[class] {
			y.refuses(i*words[class], api.ErrTwice)
		}
		if n := y.p.Len(); n != per[class] {
			t.Errorf("10.1, R5: after refused Puts Len is %d", n)
		}
	}
}

func TestPutLastIsTakenFirst(t *testing.T) {
	for class := range 3 {
		y := made(t, class, 8)
		y.mustAdd(0)
		list := y.mustTake(per[class])
		for _, at := range list[1:] {
			y.mustPut(at, 0, false)
		}
		for _, want := range slices.Backward(list[1:]) {
			if got := y.mustTake(1); got[0] != want {
				t.Errorf("10.1: Take from class %d is %d, not %d, which was put last", class, got[0], want)
			}
		}
	}
}

func TestPutLastInAHigherSpan(t *testing.T) {
	y := made(t, 1, 16)
	y.mustAdd(0, 8)
	y.mustTake(16)
	y.mustPut(64, 0, false)
	y.mustPut(0, 0, false)
	y.mustPut(704, 8, false)
	y.mustPut(512, 8, false)
	if got := y.mustTake(4); !slices.Equal(got, []int{0, 64, 512, 704}) {
		t.Errorf("10.1: Take goes by %v", got)
	}
}

func TestGoneWithTheLastStack(t *testing.T) {
	for class := range 4 {
		for start := range per[class] {
			y := made(t, class, 24)
			y.mustAdd(8)
			list := y.mustTake(per[class])
			for i := range list {
				// Each stack is the last one put once.
				y.mustPut(list[(start+i)%len(list)], 8, i == len(list)-1)
			}
			if s := y.p.Spans(); len(s) != 0 {
				t.Errorf("10.1: a span that is gone is still there: %v", s)
			}
			for _, at := range list {
				y.refuses(at, api.ErrArg)
			}
			if at, e := y.take(); at != 0 || e != api.ErrNone {
				t.Errorf("10.1: Take from a span that is gone is %d, %d", at, e)
			}
		}
	}
}

func TestGoneByOneStack(t *testing.T) {
	for class := range 4 {
		y := made(t, class, 8)
		y.mustAdd(0)
		at := y.mustTake(1)[0]
		y.mustPut(at, 0, true)
	}
}

func TestGoneAndAddedAgain(t *testing.T) {
	for class := range 4 {
		y := made(t, class, 16)
		y.mustAdd(0)
		list := y.mustTake(per[class])
		for _, at := range slices.Backward(list) {
			y.put(at)
		}
		y.mustAdd(0)
		if got := y.mustTake(per[class]); !slices.Equal(got, list) {
			t.Errorf("10.1: from a span that is added again, Take goes by %v", got)
		}
		for _, at := range list {
			y.put(at)
		}
		y.mustAdd(3)
		if e := y.add(0); e != api.ErrTwice {
			t.Errorf("10.1: Add(0) beside the span at 3 is %d", e)
		}
	}
}

func TestGoneLeavesTheOthers(t *testing.T) {
	for class := range 4 {
		for _, goes := range []int{0, 8, 16} {
			y := made(t, class, 24)
			y.mustAdd(16, 0, 8)
			list := y.mustTake(3 * per[class])
			for _, at := range list {
				if at/512 != goes/8 {
					continue
				}
				y.mustPut(at, goes, at == 64*goes+512-words[class])
			}
			if s := y.p.Spans(); len(s) != 2 {
				t.Errorf("10.1: Spans is %v after the span at %d is gone", s, goes)
			}
			for _, at := range list {
				if at/512 == goes/8 {
					y.refuses(at, api.ErrArg)
					continue
				}
				y.mustPut(at, at/512*8, (at+words[class])%512 == 0)
			}
		}
	}
}

func TestSpansThatTouch(t *testing.T) {
	for class := range 4 {
		y := made(t, class, 16)
		y.mustAdd(8, 0)
		y.mustTake(2 * per[class])
		y.mustPut(512-words[class], 0, false)
		y.mustPut(512, 8, false)
		want := []api.Part{{Page: 0, Free: 1}, {Page: 8, Free: 1}}
		if s := y.p.Spans(); !slices.Equal(s, want) {
			t.Errorf("10.2: Spans is %v, not %v", s, want)
		}
	}
}

func TestSpansOfAllPages(t *testing.T) {
	for class := range 4 {
		y := made(t, class, 256)
		for page := 248; page >= 0; page -= 8 {
			y.mustAdd(page)
		}
		if n := y.p.Len(); n != 32*per[class] {
			t.Errorf("10.2: Len is %d", n)
		}
		for range 32 * per[class] {
			y.draw.take()
			y.p.Take(y.a)
		}
		y.hold("Take of all")
		y.mustPut(y.a.Len()-words[class], 248, false)
		y.mustPut(0, 0, false)
		if l := y.p.Free(y.a); !slices.Equal(l, []int{0, y.a.Len() - words[class]}) {
			t.Errorf("10.2: Free is %v", l)
		}
	}
}

func TestSpansOffTheGrid(t *testing.T) {
	for class := range 4 {
		y := made(t, class, 30)
		y.mustAdd(13, 3)
		for _, at := range y.mustTake(2 * per[class]) {
			page := 3
			if at >= 13*64 {
				page = 13
			}
			y.mustPut(at, page, (at-page*64+words[class]) == 512)
		}
	}
}

func TestFreeTellsTheChains(t *testing.T) {
	y := made(t, 2, 16)
	y.mustAdd(8, 0)
	y.mustTake(8)
	for _, at := range []int{896, 128, 512, 384, 0, 640} {
		y.put(at)
	}
	if l := y.p.Free(y.a); !slices.Equal(l, []int{0, 384, 128, 640, 512, 896}) {
		t.Errorf("10.2: Free is %v", l)
	}
}

// spoil writes over a list and over its spare capacity.
func spoil[T any](list []T, with T) {
	list = list[:cap(list)]
	for i := range list {
		list[i] = with
	}
}

func TestResultsAreNewMemory(t *testing.T) {
	for class := range 4 {
		y := made(t, class, 32)
		for round := range 3 {
			y.mustAdd(8 * round)
			spoil(y.p.Spans(), api.Part{Page: -7, Free: 99})
			spoil(y.p.Free(y.a), -7)
			y.hold("spoiled results")
			spans, free := y.p.Spans(), y.p.Free(y.a)
			oldSpans, oldFree := slices.Clone(spans), slices.Clone(free)
			_ = append(y.p.Spans(), api.Part{Page: 1})
			_ = append(y.p.Free(y.a), 1)
			y.mustTake(1)
			y.mustAdd(24)
			y.mustTake(1)
			y.put(64 * 24)
			if !slices.Equal(spans, oldSpans) || !slices.Equal(free, oldFree) {
				t.Fatalf("R4: what was told before has changed: %v, %v", spans, free)
			}
			y = again(t, class, round+1)
		}
	}
}

// again returns a pool with spans at the first multiples of 8.
func again(t *testing.T, class, spans int) *yard {
	t.Helper()
	y := made(t, class, 32)
	for i := range spans {
		y.mustAdd(8 * i)
	}
	return y
}

func TestPoolsShareOnlyTheArena(t *testing.T) {
	a := patterned(t, 32)
	p, q := New(3), New(3)
	if p.Add(a, 0) != api.OK || q.Add(a, 16) != api.OK || q.Add(a, 8) != api.OK {
		t.Fatal("10.1: Add to two pools")
	}
	if at, e := q.Take(a); at != 512 || e != api.OK {
		t.Errorf("R1: Take from the second pool is %d, %d", at, e)
	}
	if _, _, e := p.Put(a, 512); e != api.ErrArg {
		t.Errorf("R1: Put to the first pool of a stack of the second is %d", e)
	}
	if !slices.Equal(p.Free(a), []int{0, 256}) || !slices.Equal(q.Free(a), []int{768, 1024, 1280}) {
		t.Errorf("R1: Free is %v and %v", p.Free(a), q.Free(a))
	}
	if e := q.Add(a, 0); e != api.OK {
		t.Errorf("R1: Add to one pool of what is in another is %d", e)
	}
}

func TestPoolsOfAllClassesInOneArena(t *testing.T) {
	a := patterned(t, 32)
	pools := []*Pool{New(0), New(1), New(2), New(3)}
	for class, p := range pools {
		if e := p.Add(a, 8*class); e != api.OK {
			t.Fatalf("10.1: Add to class %d is %d", class, e)
		}
	}
	for range 40 {
		for class, p := range pools {
			first := 512 * class
			at, e := p.Take(a)
			if e != api.OK || at != first {
				t.Fatalf("10.1: Take from class %d is %d, %d", class, at, e)
			}
			next, e := p.Take(a)
			if e != api.OK || next != first+words[class] {
				t.Fatalf("10.1: the second Take from class %d is %d, %d", class, next, e)
			}
			// A stack that is taken belongs to its taker, word by word.
			a.Fill(at, words[class], math.MaxUint64)
			a.Fill(next, words[class], 1)
			p.Put(a, next)
			if _, gone, e := p.Put(a, at); e != api.OK || !gone {
				t.Fatalf("10.1: Put of the last stack of class %d is %t, %d", class, gone, e)
			}
			if e := p.Add(a, 8*class); e != api.OK {
				t.Fatalf("10.1: Add of a span that is gone is %d", e)
			}
		}
	}
}

func TestTakersMayWriteTheirWords(t *testing.T) {
	for class := range 4 {
		for _, w := range []uint64{0, 1, 513, 1024, 1 << 63, math.MaxUint64} {
			y := made(t, class, 16)
			y.mustAdd(8, 0)
			list := y.mustTake(per[class] + 1)
			for _, at := range list {
				y.a.Fill(at, words[class], w)
				for i := range words[class] {
					y.draw.words[at+i] = w
				}
			}
			y.hold("Fill of stacks that are taken")
			for i, at := range list[:per[class]] {
				y.mustPut(at, 0, i == per[class]-1)
			}
			y.mustPut(512, 8, true)
		}
	}
}

// next steps a fixed row of numbers.
func next(x *uint64) int {
	*x ^= *x << 13
	*x ^= *x >> 7
	*x ^= *x << 17
	return int(*x >> 33)
}

func TestHistories(t *testing.T) {
	for class := range 4 {
		seed := uint64(88172645463325252) + uint64(class)
		y := made(t, class, 60)
		// out are the stacks that were taken and not put back.
		out := []int{}
		for range 4000 {
			switch n := next(&seed) % 16; {
			case n == 0:
				y.add(next(&seed)%70 - 5)
			case n == 1:
				y.put(next(&seed)%4200 - 100)
				out = slices.DeleteFunc(out, y.isFree)
			case n < 9:
				at, e := y.take()
				if e != api.OK {
					break
				}
				if slices.Contains(out, at) {
					t.Fatalf("10.3: %d is taken a second time", at)
				}
				out = append(out, at)
			case len(out) > 0:
				i := next(&seed) % len(out)
				if _, _, e := y.put(out[i]); e != api.OK {
					t.Fatalf("10.1: Put(%d) is %d", out[i], e)
				}
				out = slices.Delete(out, i, i+1)
			}
			y.once(out)
		}
	}
}

// isFree reports whether the stack at an address is not a taken one of the picture.
func (y *yard) isFree(at int) bool {
	i, ok := y.draw.of(at / 64)
	return !ok || slices.Contains(y.draw.spans[i].free, at)
}

// once holds that the stacks of the spans are those that are free and those that are out, each of them once.
func (y *yard) once(out []int) {
	y.Helper()
	got := slices.Sorted(slices.Values(slices.Concat(out, y.p.Free(y.a))))
	want := []int{}
	for _, s := range y.p.Spans() {
		for i := range per[y.draw.class] {
			want = append(want, 64*s.Page+i*words[y.draw.class])
		}
	}
	if !slices.Equal(got, want) {
		y.Fatalf("10.3: free and taken are %v, the stacks of all spans are %v", got, want)
	}
}

func TestNoStackIsTakenTwice(t *testing.T) {
	for class := range 4 {
		y := made(t, class, 24)
		y.mustAdd(16, 8, 0)
		seen := map[int]int{}
		for range 3 * per[class] {
			at := y.mustTake(1)[0]
			seen[at]++
			if seen[at] != 1 {
				t.Fatalf("10.3: %d is taken %d times", at, seen[at])
			}
		}
		if _, e := y.take(); e != api.ErrNone {
			t.Errorf("10.3: more stacks are taken than there are: %d", e)
		}
	}
}

func TestNilPool(t *testing.T) {
	var p *Pool
	a := patterned(t, 8)
	before := all(t, a)
	for _, n := range numbers(8) {
		if e := p.Add(a, n); e != api.ErrNone {
			t.Errorf("R6: Add(%d) to nil is %d", n, e)
		}
		if page, gone, e := p.Put(a, n); page != 0 || gone || e != api.ErrNone {
			t.Errorf("R6: Put(%d) to nil is %d, %t, %d", n, page, gone, e)
		}
	}
	if at, e := p.Take(a); at != 0 || e != api.ErrNone {
		t.Errorf("R6: Take from nil is %d, %d", at, e)
	}
	if len(p.Spans()) != 0 || len(p.Free(a)) != 0 || p.Len() != 0 {
		t.Errorf("R6: nil tells %v, %v, %d", p.Spans(), p.Free(a), p.Len())
	}
	if p.Add(nil, 0) != api.ErrNone || len(p.Free(nil)) != 0 {
		t.Error("R6: nil with a nil arena")
	}
	if at, e := p.Take(nil); at != 0 || e != api.ErrNone {
		t.Errorf("R6: Take from nil in nil is %d, %d", at, e)
	}
	if page, gone, e := p.Put(nil, 0); page != 0 || gone || e != api.ErrNone {
		t.Errorf("R6: Put to nil in nil is %d, %t, %d", page, gone, e)
	}
	if !slices.Equal(all(t, a), before) {
		t.Error("R6: a nil pool changes a word")
	}
}

func TestNilArena(t *testing.T) {
	for class := range 4 {
		y := made(t, class, 16)
		for round := range 3 {
			for _, n := range numbers(16) {
				if e := y.p.Add(nil, n); e != api.ErrNone {
					t.Errorf("R6: Add(%d) in nil is %d", n, e)
				}
				if page, gone, e := y.p.Put(nil, n); page != 0 || gone || e != api.ErrNone {
					t.Errorf("R6: Put(%d) in nil is %d, %t, %d", n, page, gone, e)
				}
			}
			if at, e := y.p.Take(nil); at != 0 || e != api.ErrNone {
				t.Errorf("R6: Take in nil is %d, %d", at, e)
			}
			if l := y.p.Free(nil); len(l) != 0 {
				t.Errorf("R6: Free in nil is %v", l)
			}
			y.hold("calls with a nil arena")
			if round == 0 {
				y.mustAdd(8)
			}
			y.take()
		}
	}
}

func TestArenaWithoutPages(t *testing.T) {
	p, a := New(3), &arena.Arena{}
	for _, page := range numbers(8) {
		if e := p.Add(a, page); e != api.ErrArg {
			t.Errorf("10.1: Add(%d) in no pages is %d", page, e)
		}
	}
	if at, e := p.Take(a); at != 0 || e != api.ErrNone {
		t.Errorf("10.1: Take in no pages is %d, %d", at, e)
	}
}

// tried calls everything of a pool, whatever its words are.
func tried(p *Pool, a *arena.Arena) {
	for at := range 1024 {
		p.Free(a)
		p.Put(a, at)
		p.Take(a)
	}
	p.Add(a, 0)
	p.Add(a, 8)
	p.Spans()
	p.Len()
}

func TestForeignWords(t *testing.T) {
	for class := range 4 {
		for _, w := range []uint64{0, 1, 2, 513, 1024, 1025, 1 << 63, math.MaxUint64} {
			p, a := New(class), arena.New(16)
			p.Add(a, 0)
			p.Add(a, 8)
			// R1: even if somebody else changes the words of free stacks, every call ends.
			a.Fill(0, a.Len(), w)
			tried(p, a)
			a.Fill(0, a.Len(), w)
			tried(p, a)
		}
	}
}

func TestForeignArena(t *testing.T) {
	for class := range 4 {
		p := New(class)
		p.Add(arena.New(256), 248)
		p.Add(arena.New(256), 0)
		// R1: even if a call is given another arena, it ends.
		tried(p, arena.New(1))
		tried(p, arena.New(16))
		tried(p, &arena.Arena{})
	}
}
