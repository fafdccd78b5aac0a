package late

import (
	"math"
	"slices"
	"testing"

	"rickyard/api"
)

const (
	least = math.MinInt64
	most  = math.MaxInt64
)

// queue makes a queue of its pages.
func queue(on bool, pages ...int) api.Late {
	return api.Late{On: on, Pages: pages}
}

// same reports whether two queues are alike; a nil list and an empty list are the same.
func same(a, b api.Late) bool {
	return a.On == b.On && slices.Equal(a.Pages, b.Pages)
}

// zero reports whether a queue is what stands beside an error and beside false.
func zero(l api.Late) bool {
	return same(l, api.Late{})
}

// inRange reports whether a span of a queue may begin at a page: it is looked up, so that nothing can wrap round.
func inRange(page int) bool {
	for p := 0; p+8 <= 256; p++ {
		if p == page {
			return true
		}
	}
	return false
}

// held marks the pages of all spans of a queue, page by page.
func held(pages []int) [256]bool {
	var in [256]bool
	for _, page := range pages {
		for i := range 8 {
			in[page+i] = true
		}
	}
	return in
}

// code is what Put returns by the words of the chapter.
func code(on bool, in [256]bool, page int) api.Errno {
	if !on {
		return api.ErrState
	}
	if !inRange(page) {
		return api.ErrArg
	}
	if slices.Contains(in[page:page+8], true) {
		return api.ErrTwice
	}
	return api.OK
}

// asked are all pages, those ahead of them and behind them, those that a narrow integer takes for a page, and far ones.
func asked() []int {
	all := []int{
		least, least + 1, least + 7, least + 8, least + 248, -1 << 62, -1 << 32, -1<<32 + 8, -1 << 31, -65536, -512, -257, -256, -248, -64,
		512, 520, 1024, 65536, 65536 + 8, 1 << 31, 1<<31 + 8, 1 << 32, 1<<32 + 8, 1<<32 + 248, 1 << 61, 1 << 62, most - 255, most - 248, most - 8, most - 7, most - 1, most,
	}
	for page := -20; page <= 280; page++ {
		all = append(all, page)
	}
	return all
}

// few are all queues of up to two spans that have no page in common, with the first pages from lo to hi, in every order.
func few(lo, hi int) [][]int {
	all := [][]int{}
	for a := lo; a <= hi; a++ {
		all = append(all, []int{a})
		for b := lo; b <= hi; b++ {
			if b >= a+8 || a >= b+8 {
				all = append(all, []int{a, b})
			}
		}
	}
	return all
}

// full is the queue of n spans, each step spans behind the one before, and round again, from page on.
func full(page, n, step int) []int {
	all := []int{}
	for i := range n {
		all = append(all, page+8*(i*step%n))
	}
	return all
}

// apart are the pages of queues whose spans have no page in common: all small ones at both ends, and long ones in many orders.
func apart() [][]int {
	all := append(few(0, 17), few(231, 248)...)
	all = append(all, nil, []int{}, []int{16, 8, 24, 248, 0}, []int{100, 40, 70, 8, 240, 0}, []int{248, 0, 128})
	all = append(all, full(0, 32, 1), full(0, 32, 31), full(0, 32, 5), full(0, 32, 19), full(4, 31, 1), full(7, 31, 12))
	gaps := []int{}
	for page := 248; page >= 0; page -= 15 {
		gaps = append(gaps, page)
	}
	return append(all, gaps)
}

// lists are those, and some whose spans have pages in common: these are queues, too, as each page is in range.
func lists() [][]int {
	return append(apart(), []int{8, 8}, []int{0, 0, 0}, []int{0, 7}, []int{7, 0, 248}, []int{241, 248}, []int{16, 9, 23, 16}, slices.Repeat([]int{248, 3}, 200))
}

// queues are those of all lists, with the phase on and off.
func queues() []api.Late {
	all := []api.Late{}
	for _, pages := range lists() {
		all = append(all, queue(true, pages...), queue(false, pages...))
	}
	return all
}

// spoil writes all over the pages of a queue, their spare capacity included.
func spoil(l api.Late) {
	pages := l.Pages[:cap(l.Pages)]
	for i := range pages {
		pages[i] = -7
	}
}

// within returns a queue whose pages are a piece of a longer list, so that they have spare capacity, and this list.
func within(l api.Late) (api.Late, []int) {
	whole := []int{-9}
	whole = append(whole, l.Pages...)
	whole = append(whole, -8, -8, -8)
	return api.Late{On: l.On, Pages: whole[1 : 1+len(l.Pages)]}, whole
}

func TestExamples(t *testing.T) {
	if l := Set(api.Late{}, true); !l.On || len(l.Pages) != 0 {
		t.Errorf("12.1: Set of the zero queue to true returns %v", l)
	}
	if l, e := Put(api.Late{}, 8); !zero(l) || e != api.ErrState {
		t.Errorf("12.1: Put into the zero queue returns %v, %d", l, e)
	}
	if l, page, ok := Next(api.Late{}); !zero(l) || page != 0 || ok {
		t.Errorf("12.1: Next of the zero queue returns %v, %d, %t", l, page, ok)
	}
	for _, page := range []int{0, 8, 248} {
		if Has(api.Late{}, page) {
			t.Errorf("12.1: an empty queue has page %d", page)
		}
	}
}

func TestSet(t *testing.T) {
	for _, from := range []bool{true, false} {
		for _, to := range []bool{true, false} {
			for _, pages := range [][]int{nil, {}, {0}, {248}, {16, 8, 24, 248, 0}} {
				if got := Set(queue(from, pages...), to); !same(got, queue(to, pages...)) {
					t.Errorf("12.1: Set of %v from %t to %t returns %v", pages, from, to, got)
				}
			}
		}
	}
}

func TestSetOfAllQueues(t *testing.T) {
	for _, l := range queues() {
		for _, on := range []bool{true, false} {
			got := Set(l, on)
			if got.On != on || !slices.Equal(got.Pages, l.Pages) {
				t.Errorf("12.1: Set(%v, %t) returns %v", l, on, got)
			}
			if back := Set(got, l.On); !same(back, l) {
				t.Errorf("12.1: %v, set to %t and back, is %v", l, on, back)
			}
		}
	}
}

func TestPut(t *testing.T) {
	for _, c := range []struct {
		pages []int
		page  int
	}{
		{nil, 0}, {nil, 1}, {nil, 9}, {nil, 247}, {nil, 248},
		// One that begins right behind a span, one that ends right ahead of it, and both.
		{[]int{16}, 24}, {[]int{16}, 8}, {[]int{16, 32}, 24}, {[]int{32, 16}, 24}, {[]int{240}, 248}, {[]int{8}, 0}, {[]int{7}, 15}, {[]int{9}, 1},
		// Wherever it lies, it goes last.
		{[]int{16, 8, 24, 248}, 0}, {[]int{0, 8, 16}, 248}, {[]int{248, 0, 100}, 50}, {[]int{50, 200}, 100},
	} {
		got, e := Put(queue(true, c.pages...), c.page)
		if !same(got, queue(true, append(slices.Clone(c.pages), c.page)...)) || e != api.OK {
			t.Errorf("12.1: Put of %d into %v returns %v, %d", c.page, c.pages, got, e)
		}
	}
}

func TestPutWhileOff(t *testing.T) {
	for _, pages := range [][]int{nil, {}, {0}, {8}, {248}, {16, 8, 24, 248, 0}} {
		// Those that are right, those that are not, and those that have a page in common with a span of the queue.
		for _, page := range []int{40, 128, 0, 8, 16, 248, 1, 15, 9, 241, -1, -8, 249, 256, least, most} {
			if got, e := Put(queue(false, pages...), page); !zero(got) || e != api.ErrState {
				t.Errorf("12.1, R2, R3: Put of %d into %v, whose phase is off, returns %v, %d", page, pages, got, e)
			}
		}
	}
}

func TestPutOfWrongPages(t *testing.T) {
	for _, c := range []struct {
		pages []int
		page  int
		want  api.Errno
	}{
		{nil, -1, api.ErrArg}, {nil, 249, api.ErrArg}, {nil, 255, api.ErrArg}, {nil, 256, api.ErrArg}, {nil, -8, api.ErrArg}, {nil, -248, api.ErrArg},
		{nil, least, api.ErrArg}, {nil, most, api.ErrArg}, {nil, most - 7, api.ErrArg}, {nil, most - 8, api.ErrArg}, {nil, 1 << 32, api.ErrArg}, {nil, -1 << 32, api.ErrArg},
		{[]int{16}, -1, api.ErrArg}, {[]int{16}, 249, api.ErrArg}, {[]int{16}, least, api.ErrArg}, {[]int{16}, most, api.ErrArg}, {[]int{16}, 1<<32 + 16, api.ErrArg},
		// These are out of range, and would have a page in common with a span.
		{[]int{0}, -1, api.ErrArg}, {[]int{0}, -7, api.ErrArg}, {[]int{6, 248, 20}, -1, api.ErrArg}, {[]int{248}, 249, api.ErrArg}, {[]int{248}, 255, api.ErrArg}, {[]int{0, 242}, 249, api.ErrArg},
		// The same page again, and one page in common from below and from above.
		{[]int{16}, 16, api.ErrTwice}, {[]int{16}, 9, api.ErrTwice}, {[]int{16}, 23, api.ErrTwice}, {[]int{16}, 15, api.ErrTwice}, {[]int{16}, 17, api.ErrTwice},
		{[]int{0}, 0, api.ErrTwice}, {[]int{0}, 7, api.ErrTwice}, {[]int{7}, 0, api.ErrTwice}, {[]int{248}, 248, api.ErrTwice}, {[]int{248}, 241, api.ErrTwice}, {[]int{241}, 248, api.ErrTwice},
		// The first span, one within, and the last span have it in common; and two of them at once.
		{[]int{100, 40, 200}, 107, api.ErrTwice}, {[]int{100, 40, 200}, 33, api.ErrTwice}, {[]int{100, 40, 200}, 207, api.ErrTwice}, {[]int{100, 40, 200}, 200, api.ErrTwice},
		{[]int{16, 24}, 20, api.ErrTwice}, {[]int{30, 16}, 23, api.ErrTwice},
	} {
		if got, e := Put(queue(true, c.pages...), c.page); !zero(got) || e != c.want {
			t.Errorf("12.1, R2, R3: Put of %d into %v returns %v, %d, not %d", c.page, c.pages, got, e, c.want)
		}
	}
}

func TestPutIntoAllQueues(t *testing.T) {
	pages := asked()
	for _, l := range queues() {
		in := held(l.Pages)
		for _, page := range pages {
			want := code(l.On, in, page)
			next := api.Late{}
			if want == api.OK {
				next = queue(true, append(slices.Clone(l.Pages), page)...)
			}
			if got, e := Put(l, page); !same(got, next) || e != want {
				t.Fatalf("12.1, R2, R3, R7: Put(%v, %d) returns %v, %d, not %v, %d", l, page, got, e, next, want)
			}
		}
	}
}

func TestNext(t *testing.T) {
	for _, on := range []bool{true, false} {
		l := queue(on, 16, 248, 0, 8)
		for _, c := range []struct {
			want []int
			page int
		}{{[]int{248, 0, 8}, 16}, {[]int{0, 8}, 248}, {[]int{8}, 0}, {nil, 8}} {
			got, page, ok := Next(l)
			if !same(got, queue(on, c.want...)) || page != c.page || !ok {
				t.Errorf("12.1: Next(%v) returns %v, %d, %t", l, got, page, ok)
			}
			l = got
		}
		for range 2 {
			if got, page, ok := Next(l); !zero(got) || page != 0 || ok {
				t.Errorf("12.1, R3: Next(%v) returns %v, %d, %t", l, got, page, ok)
			}
		}
	}
}

func TestNextOfNone(t *testing.T) {
	for _, l := range []api.Late{{}, {On: true}, queue(true, []int{}...), queue(false, []int{}...), {On: true, Pages: make([]int, 0, 8)}, {On: true, Pages: []int{8}[:0]}} {
		if got, page, ok := Next(l); !zero(got) || page != 0 || ok {
			t.Errorf("12.1, R3: Next(%v) returns %v, %d, %t", l, got, page, ok)
		}
	}
}

func TestNextOfAllQueues(t *testing.T) {
	for _, given := range queues() {
		l := given
		for i, want := range given.Pages {
			got, page, ok := Next(l)
			if !same(got, queue(given.On, given.Pages[i+1:]...)) || page != want || !ok {
				t.Fatalf("12.1, 12.2: Next(%v) returns %v, %d, %t", l, got, page, ok)
			}
			l = got
		}
		if got, page, ok := Next(l); !zero(got) || page != 0 || ok {
			t.Errorf("12.1, R3: Next when none is left of %v returns %v, %d, %t", given, got, page, ok)
		}
	}
}

func TestHas(t *testing.T) {
	for _, on := range []bool{true, false} {
		l := queue(on, 16, 8, 24, 248, 0)
		for _, page := range []int{16, 8, 24, 248, 0} {
			if !Has(l, page) {
				t.Errorf("12.1: %v does not have page %d", l, page)
			}
		}
		// Pages within the spans, pages that no span has, and pages out of range.
		for _, page := range []int{1, 7, 9, 15, 17, 23, 25, 31, 249, 255, 32, 40, 128, 247, -1, -8, 256, 1<<32 + 8, -1 << 32, least, most} {
			if Has(l, page) {
				t.Errorf("12.1: %v has page %d", l, page)
			}
		}
	}
}

func TestHasOfAllQueues(t *testing.T) {
	pages := asked()
	for _, l := range queues() {
		var first [256]bool
		for _, page := range l.Pages {
			first[page] = true
		}
		for _, page := range pages {
			if want := inRange(page) && first[page]; Has(l, page) != want {
				t.Fatalf("12.1, R7: Has(%v, %d) is %t", l, page, !want)
			}
		}
	}
}

// TestOrder puts all pages of a queue one by one, and lets them leave: the first in is the first out.
func TestOrder(t *testing.T) {
	for _, pages := range apart() {
		l := Set(api.Late{}, true)
		for _, page := range pages {
			next, e := Put(l, page)
			if e != api.OK || !Has(next, page) {
				t.Fatalf("12.1: Put(%v, %d) returns %v, %d", l, page, next, e)
			}
			l = next
		}
		l = Set(l, false)
		left := []int{}
		for next, page, ok := Next(l); ok; next, page, ok = Next(next) {
			left = append(left, page)
			if len(left) > len(pages) || Has(next, page) {
				t.Fatalf("12.2: of %v there have left %v", pages, left)
			}
		}
		if !slices.Equal(left, pages) {
			t.Errorf("12.2: %v have left as %v", pages, left)
		}
	}
}

// TestOrderWhileItGrows lets one page leave behind every second that comes.
func TestOrderWhileItGrows(t *testing.T) {
	for _, pages := range apart() {
		l, left := queue(true), []int{}
		leave := func() bool {
			next, page, ok := Next(l)
			if ok {
				l, left = next, append(left, page)
			}
			return ok
		}
		for i, page := range pages {
			next, e := Put(l, page)
			if e != api.OK {
				t.Fatalf("12.1: Put(%v, %d) returns %d", l, page, e)
			}
			l = next
			if i%2 == 1 {
				leave()
			}
		}
		for len(left) <= len(pages) && leave() {
		}
		if !slices.Equal(left, pages) {
			t.Errorf("12.2: %v have left as %v", pages, left)
		}
	}
}

// TestPutAgain puts pages that have left: their spans are in the queue no more.
func TestPutAgain(t *testing.T) {
	l := queue(true, full(0, 32, 5)...)
	for range 100 {
		if got, e := Put(l, l.Pages[0]); !zero(got) || e != api.ErrTwice {
			t.Fatalf("12.1: Put(%v, %d) returns %v, %d", l, l.Pages[0], got, e)
		}
		rest, page, _ := Next(l)
		for _, off := range []int{-1, 1} {
			if got, e := Put(rest, page+off); e == api.OK {
				t.Fatalf("12.1: Put(%v, %d) returns %v", rest, page+off, got)
			}
		}
		next, e := Put(rest, page)
		if e != api.OK || next.Pages[31] != page || !slices.Equal(next.Pages[:31], l.Pages[1:]) {
			t.Fatalf("12.1, 12.2: Put(%v, %d) returns %v, %d", rest, page, next, e)
		}
		l = next
	}
}

// TestHistory holds many calls, chosen by a fixed rule, against a plain list of pages.
func TestHistory(t *testing.T) {
	l, on, pages := api.Late{}, false, []int{}
	seed := uint64(88172645463325252)
	for i := range 20000 {
		seed ^= seed << 13
		seed ^= seed >> 7
		seed ^= seed << 17
		switch seed >> 30 % 16 {
		case 0:
			on = !on
			l = Set(l, on)
		case 1, 2:
			next, page, ok := Next(l)
			if ok != (len(pages) > 0) || ok && page != pages[0] {
				t.Fatalf("12.1, 12.2: step %d: Next(%v) returns %d, %t", i, l, page, ok)
			}
			if ok {
				l, pages = next, pages[1:]
			}
		default:
			page := int(seed>>40%260) - 4
			want := code(on, held(pages), page)
			next, e := Put(l, page)
			if e != want {
				t.Fatalf("12.1: step %d: Put(%v, %d) returns %d, not %d", i, l, page, e, want)
			}
			if e == api.OK {
				l, pages = next, append(pages, page)
			}
		}
		if !same(l, queue(on, pages...)) {
			t.Fatalf("12.1, 12.2: step %d: the queue is %v, not %t, %v", i, l, on, pages)
		}
	}
}

func TestArgumentsStay(t *testing.T) {
	pages := asked()
	for _, given := range queues() {
		l, whole := within(given)
		before := slices.Clone(whole)
		check := func(what string, got api.Late) {
			t.Helper()
			if !slices.Equal(whole, before) {
				t.Fatalf("R4, R5: %s changes %v to %v", what, before, whole)
			}
			spoil(got)
			_ = append(got.Pages, -6)
			if !slices.Equal(whole, before) {
				t.Fatalf("R4: what %s returns shares memory with its queue %v", what, before)
			}
		}
		check("Set to true", Set(l, true))
		check("Set to false", Set(l, false))
		next, _, _ := Next(l)
		check("Next", next)
		for _, page := range pages {
			next, _ := Put(l, page)
			check("Put", next)
		}
		for _, page := range pages {
			Has(l, page)
		}
		check("Has", api.Late{})
	}
}

// TestArgumentsAreNotKept spoils a queue behind a call: what the call returned must not show it.
func TestArgumentsAreNotKept(t *testing.T) {
	for _, given := range queues() {
		for _, call := range []func(l api.Late) api.Late{
			func(l api.Late) api.Late { return Set(l, true) },
			func(l api.Late) api.Late { return Set(l, false) },
			func(l api.Late) api.Late { next, _, _ := Next(l); return next },
			func(l api.Late) api.Late { next, _ := Put(l, 120); return next },
		} {
			l, whole := within(given)
			got := call(l)
			kept := slices.Clone(got.Pages)
			for i := range whole {
				whole[i] = -5
			}
			if !slices.Equal(got.Pages, kept) {
				t.Fatalf("R4: what was returned for %v is now %v", given, got)
			}
		}
	}
}

// TestResultsAreApart makes several results of one queue, and grows each of them: none shows it of another.
func TestResultsAreApart(t *testing.T) {
	for _, n := range []int{0, 1, 2, 3, 4, 5, 7, 8, 15, 16, 30} {
		given := queue(true, full(0, n, 1)...)
		l, _ := within(given)
		a, _ := Put(l, 240)
		b, _ := Put(l, 248)
		c, _, _ := Next(a)
		d, _, _ := Next(a)
		e, f := Set(a, true), Set(a, true)
		all := []api.Late{a, b, c, d, e, f}
		kept := [][]int{}
		for _, x := range all {
			kept = append(kept, slices.Clone(x.Pages))
		}
		for i, x := range all {
			_ = append(x.Pages, -6)
			spoil(x)
			for j := i + 1; j < len(all); j++ {
				if !slices.Equal(all[j].Pages, kept[j]) {
					t.Fatalf("R4: result %d for %v is now %v, not %v", j, given, all[j], kept[j])
				}
			}
		}
		if !slices.Equal(l.Pages, given.Pages) {
			t.Fatalf("R4: %v is now %v", given, l)
		}
	}
}

// TestErrorsChangeNothing goes on with a queue behind calls that returned errors.
func TestErrorsChangeNothing(t *testing.T) {
	l := queue(true, 16, 8)
	for _, page := range []int{-1, 249, 16, 9, 23, 8, 1, least, most} {
		if got, e := Put(l, page); !zero(got) || e == api.OK {
			t.Errorf("12.1, R3: Put(%v, %d) returns %v, %d", l, page, got, e)
		}
		if got, e := Put(Set(l, false), page); !zero(got) || e != api.ErrState {
			t.Errorf("12.1, R2: Put of %d while the phase is off returns %v, %d", page, got, e)
		}
		if next, e := Put(l, 24); !same(next, queue(true, 16, 8, 24)) || e != api.OK {
			t.Errorf("R5: behind the error for %d, Put of 24 returns %v, %d", page, next, e)
		}
	}
	if !same(l, queue(true, 16, 8)) {
		t.Errorf("R5: the queue is %v", l)
	}
}

// TestAnswersRepeat asks again: nothing is kept from call to call.
func TestAnswersRepeat(t *testing.T) {
	for range 3 {
		l := Set(queue(false, 16), true)
		l, e := Put(l, 8)
		if !same(l, queue(true, 16, 8)) || e != api.OK {
			t.Errorf("R1: Put returns %v, %d", l, e)
		}
		for range 3 {
			if next, page, ok := Next(l); !same(next, queue(true, 8)) || page != 16 || !ok {
				t.Errorf("R1: Next returns %v, %d, %t", next, page, ok)
			}
			if !Has(l, 8) || Has(l, 24) {
				t.Errorf("R1: Has answers otherwise for %v", l)
			}
		}
	}
}

// TestOtherQueues asks nothing of queues with pages out of range but that the calls return.
func TestOtherQueues(t *testing.T) {
	pages := asked()
	others := [][]int{{least, most}, {most, least}, {-1}, {249}, {0, most - 7}, slices.Repeat([]int{most}, 1000), slices.Repeat([]int{least, 8}, 1000)}
	for _, page := range pages {
		others = append(others, []int{page}, []int{16, page}, []int{page, 16})
	}
	for _, other := range others {
		for _, on := range []bool{true, false} {
			l := queue(on, other...)
			Set(l, !on)
			Next(l)
			for _, page := range pages {
				Put(l, page)
				Has(l, page)
			}
		}
	}
}
