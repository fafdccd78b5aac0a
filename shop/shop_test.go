package shop

import (
	"fmt"
	"math"
	"slices"
	"testing"

	"rickyard/api"
)

const (
	least = math.MinInt64
	most  = math.MaxInt64
)

// full allocates words of a class for each stack of n spans.
func full(c, n int) []int {
	return slices.Repeat([]int{words[c]}, n*per[c])
}

// wrong are numbers of words that no class has.
func wrong() []int {
	return []int{
		least, least + 1, least + 32, -1 << 62, -1 << 32, -1<<32 + 32, -4097, -4096, -512, -32, -1, 0,
		4097, 4098, 8192, 16384, 1 << 31, 1 << 32, 1<<32 + 1, 1<<32 + 32, 1 << 62, most - 31, most - 1, most,
	}
}

// far are addresses that are not those of an arena of n words.
func far(n int) []int {
	return []int{
		least, least + 1, least + 32, least + 512, -1 << 62, -1 << 32, -1<<32 + 512, -n, -4096, -512, -64, -33, -32, -31, -1,
		n, n + 1, n + 32, n + 512, 2 * n, 16384, 1 << 31, 1 << 32, 1<<32 + 32, 1<<32 + 512, 1 << 62, most - 511, most - 31, most - 1, most,
	}
}

// strangers are the workers that are not there if there are n.
func strangers(n int) []int {
	return []int{least, least + 1, -1 << 62, -1 << 32, -n - 1, -n, -2, -1, n, n + 1, 64, 1 << 31, 1 << 32, 1<<32 + 1, 1 << 62, most - 1, most}
}

func TestExamples(t *testing.T) {
	if New(8, 0) != nil {
		t.Error("15.1: New(8, 0) is not nil")
	}
	s := New(8, 1)
	if s.On() || len(s.Live()) != 0 || len(s.Cached(0, 0)) != 0 {
		t.Errorf("15.4: New(8, 1) tells %t, %v, %v", s.On(), s.Live(), s.Cached(0, 0))
	}
	if p := s.Parts(); !same(p, api.Parts{Runs: []api.Piece{{At: 0, Words: 512}}}) {
		t.Errorf("15.4: Parts of New(8, 1) is %v", p)
	}
	at, e := s.Alloc(0, 32)
	if l := s.Cached(0, 0); at != 0 || e != api.OK || !slices.Equal(l, []int{96, 64, 32}) {
		t.Errorf("15.2: Alloc(0, 32) is %d, %d, and Cached(0, 0) %v", at, e, l)
	}
	if e := s.Free(1, 0); e != api.ErrArg {
		t.Errorf("15.3: Free(1, 0) is %d", e)
	}
	if e := s.Flush(0); e != api.OK || len(s.Cached(0, 0)) != 0 {
		t.Errorf("15.4: Flush(0) is %d and leaves %v", e, s.Cached(0, 0))
	}
	s.GC(true)
	if !s.On() {
		t.Error("15.4: after GC(true) On is false")
	}
}

func TestNew(t *testing.T) {
	for _, pages := range []int{1, 2, 7, 8, 9, 16, 63, 128, 255, 256} {
		for workers := 1; workers <= 6; workers++ {
			p := made(t, pages, workers)
			p.empty(fmt.Sprintf("New(%d, %d)", pages, workers))
			if p.s.On() || len(p.s.Live()) != 0 {
				t.Errorf("15.1: New(%d, %d) has the phase %t and the live stacks %v", pages, workers, p.s.On(), p.s.Live())
			}
			p.none(workers-1, far(64*pages)...)
			p.none(0, 0, 32, 64*pages-32)
			p.flush(p.workers()...)
		}
	}
}

func TestNewOfWrongNumbers(t *testing.T) {
	pages := []int{least, least + 1, least + 8, -1 << 32, -1<<32 + 8, -257, -256, -8, -1, 0, 257, 258, 512, 16384, 1 << 31, 1 << 32, 1<<32 + 8, most - 1, most}
	workers := []int{least, least + 1, -1 << 32, -1<<32 + 1, -7, -6, -1, 0, 7, 8, 256, 1 << 31, 1 << 32, 1<<32 + 1, most - 1, most}
	for _, n := range pages {
		for _, w := range append([]int{1, 2, 6}, workers...) {
			if New(n, w) != nil {
				t.Errorf("15.1: New(%d, %d) is not nil", n, w)
			}
		}
	}
	for _, w := range workers {
		for _, n := range []int{1, 7, 8, 255, 256} {
			if New(n, w) != nil {
				t.Errorf("15.1: New(%d, %d) is not nil", n, w)
			}
		}
	}
}

func TestStrangers(t *testing.T) {
	for n := 1; n <= 6; n++ {
		p := made(t, 31, n)
		list := p.mustAlloc(n-1, 32, 256, 512)
		for range 2 {
			for _, w := range strangers(n) {
				for _, x := range append(wrong(), 1, 32, 33, 256, 512, 513, 2048, 4096) {
					p.refuses(w, x, api.ErrArg)
				}
				// ErrArg comes before ErrNone.
				for _, at := range append(far(31*64), append([]int{1, 32, 64, 256}, list...)...) {
					if e := p.free(w, at); e != api.ErrArg {
						t.Fatalf("15.3, R2: Free(%d, %d) with %d workers is %d", w, at, n, e)
					}
				}
				p.flush(w)
				for c := -1; c < 9; c++ {
					if l := p.s.Cached(w, c); len(l) != 0 {
						t.Errorf("15.4: Cached(%d, %d) with %d workers is %v", w, c, n, l)
					}
				}
			}
			p.gc(true)
		}
	}
}

func TestAllocOfNoClass(t *testing.T) {
	for _, pages := range []int{1, 8, 256} {
		p := made(t, pages, 2)
		for _, n := range wrong() {
			p.refuses(0, n, api.ErrArg)
			p.refuses(1, n, api.ErrArg)
		}
	}
	// In a shop without room, too, ErrArg comes first.
	p := made(t, 8, 1)
	p.mustAlloc(0, 512)
	for _, n := range wrong() {
		p.refuses(0, n, api.ErrArg)
	}
	p.refuses(1, 1, api.ErrArg)
}

func TestAllocAtTheEdges(t *testing.T) {
	low := 1
	for c, w := range words {
		for _, n := range []int{low, low + 1, w - 1, w} {
			p := made(t, 256, 3)
			p.mustAlloc(2, n)
			if l := p.s.Live(); !slices.Equal(l, []api.Live{{At: 0, Class: c, Owner: -1}}) {
				t.Errorf("15.2: after Alloc(2, %d) the live stacks are %v", n, l)
			}
		}
		low = w + 1
	}
}

func TestAllocOfEachNumber(t *testing.T) {
	for n := 1; n <= 4096; n++ {
		s := New(64, 1)
		at, e := s.Alloc(0, n)
		if l := s.Live(); at != 0 || e != api.OK || len(l) != 1 || l[0].Class != class(n) {
			t.Fatalf("15.2: Alloc(0, %d) is %d, %d, and Live %v", n, at, e, l)
		}
	}
}

// TestAllocOfABatch allocates all stacks of three spans: which one is told, and what lies in the cache then.
func TestAllocOfABatch(t *testing.T) {
	told := [4][]int{
		{0, 96, 64, 32, 128, 224, 192, 160, 256, 352, 320, 288, 384, 480, 448, 416, 512, 608},
		{0, 128, 64, 192, 320, 256, 384, 448, 512, 640, 576, 704, 832, 768, 896, 960},
		{0, 128, 256, 384, 512, 640, 768, 896},
		{0, 256, 512, 768, 1024, 1280},
	}
	for c, want := range told {
		p := made(t, 24, 1)
		if got := p.mustAlloc(0, slices.Repeat([]int{words[c]}, len(want))...); !slices.Equal(got, want) {
			t.Errorf("15.2: Alloc of class %d goes by %v, not %v", c, got, want)
		}
	}
	p := made(t, 8, 2)
	for i, want := range [][]int{{96, 64, 32}, {64, 32}, {32}, {}, {224, 192, 160}} {
		p.mustAlloc(0, 32)
		if got := p.s.Cached(0, 0); !slices.Equal(got, want) {
			t.Errorf("15.2: after Alloc number %d the cache is %v, not %v", i+1, got, want)
		}
		if got := p.s.Cached(1, 0); len(got) != 0 {
			t.Errorf("15.2: after Alloc of the worker 0 the cache of the worker 1 is %v", got)
		}
	}
}

func TestAllocFillsSpans(t *testing.T) {
	for c := range 4 {
		for workers := 1; workers <= 6; workers++ {
			p := made(t, 24, workers)
			told := []int{}
			for i := range 3 * per[c] {
				// When its own cache and the pool have none, another worker's cache may.
				at, e := p.alloc(i%workers, words[c])
				for w := 0; e != api.OK; w++ {
					at, e = p.alloc(w, words[c])
				}
				told = append(told, at)
			}
			slices.Sort(told)
			for i, at := range told {
				if at != i*words[c] {
					t.Fatalf("15.2: the stacks of class %d are %v", c, told)
				}
			}
			for _, w := range p.workers() {
				p.refuses(w, words[c], api.ErrFull)
				p.refuses(w, 1, api.ErrFull)
				p.refuses(w, 4096, api.ErrFull)
			}
		}
	}
}

func TestAllocFillsTheArena(t *testing.T) {
	for c := range 8 {
		p := made(t, 256, 6)
		for i := range 16384 / words[c] {
			// One worker alone has no stack left in another one's cache.
			want, _ := p.draw.alloc(5, words[c])
			if at, e := p.s.Alloc(5, words[c]); at != want || e != api.OK {
				t.Fatalf("15.2: Alloc number %d of class %d is %d, %d, not %d", i+1, c, at, e, want)
			}
		}
		p.hold("Alloc of all words")
		for _, w := range words {
			p.refuses(5, w, api.ErrFull)
			p.refuses(0, w, api.ErrFull)
		}
		p.mustFree(1, 16384-words[c], 0)
	}
}

// TestAllocFromTheCache allocates while the worker's own cache, another one's, and the pool have stacks.
func TestAllocFromTheCache(t *testing.T) {
	for c := range 4 {
		p := made(t, 40, 3)
		list := p.mustAlloc(0, full(c, 2)...)
		p.mustFree(0, list[4:]...)
		p.flush(0)
		p.mustFree(1, list[1], list[0])
		p.mustFree(2, list[3], list[2])
		for i, w := range []int{1, 2} {
			// Not the lowest one is taken, nor one of the pool, but the one that this worker freed last.
			want := list[2*i : 2*i+2]
			if got := p.mustAlloc(w, words[c], words[c]); !slices.Equal(got, want) {
				t.Errorf("15.2: Alloc of class %d from the cache of %d goes by %v, not %v", c, w, got, want)
			}
			if got := p.s.Cached(w, c); len(got) != 0 {
				t.Errorf("15.2: the cache of %d is %v then", w, got)
			}
		}
		p.mustAlloc(1, words[c])
	}
}

// TestAllocOfWhatThePoolHas allocates from a pool that has any number of stacks, up to two batches.
func TestAllocOfWhatThePoolHas(t *testing.T) {
	for c := range 4 {
		for n := 0; n <= min(2*batch[c], per[c]-1); n++ {
			for _, pages := range []int{16, 17, 24} {
				p := made(t, pages, 2)
				list := p.mustAlloc(0, full(c, 1)...)
				p.mustFree(0, list[len(list)-n:]...)
				p.flush(0)
				want := p.s.Parts().Pool
				if len(want) != n {
					t.Fatalf("15.4: after Flush the pool of class %d is %v", c, want)
				}
				at := p.mustAlloc(1, words[c])[0]
				got := len(p.s.Cached(1, c))
				if n > 0 && (got != min(n, batch[c])-1 || at >= 512) || n == 0 && (got != batch[c]-1 || at != 512) {
					t.Errorf("15.2: with %d stacks of class %d in the pool Alloc is %d, and the cache has %d", n, c, at, got)
				}
			}
		}
	}
}

func TestAllocFromTheLowestSpan(t *testing.T) {
	for c := range 4 {
		p := made(t, 40, 1)
		list := p.mustAlloc(0, full(c, 3)...)
		slices.Sort(list)
		// One stack of each span goes back, from the highest one down: the lowest is taken first, and the others follow.
		back := []int{list[2*per[c]], list[per[c]], list[0]}
		for _, at := range back {
			p.mustFree(0, at)
			p.flush(0)
		}
		want := [4][]int{{0, 1024, 512}, {0, 1024, 512}, {0, 512, 1024}, {0, 512, 1024}}[c]
		if got := p.mustAlloc(0, words[c], words[c], words[c]); !slices.Equal(got, want) {
			t.Errorf("15.2: Alloc of class %d goes by %v, not %v", c, got, want)
		}
		if got := p.mustAlloc(0, words[c]); got[0] != 1536 {
			t.Errorf("15.2: from a new span of class %d Alloc is %v", c, got)
		}
	}
}

// TestAllocWithoutARun allocates when only other workers' caches have stacks of the class.
func TestAllocWithoutARun(t *testing.T) {
	for c := range 4 {
		p := made(t, 15, 4)
		list := p.mustAlloc(0, full(c, 1)...)
		for i, at := range list[:min(4, per[c])] {
			p.mustFree(1+i%3, at)
		}
		for range 2 {
			p.refuses(0, words[c], api.ErrFull)
		}
		// A worker whose own cache has a stack needs no run, and when it has none any more it is refused as well.
		for len(p.s.Cached(1, c)) > 0 {
			p.mustAlloc(1, words[c])
		}
		p.refuses(1, words[c], api.ErrFull)
		// Behind a Flush the pool has them, for whomever.
		n := len(p.s.Cached(2, c))
		p.flush(2)
		p.mustAlloc(0, slices.Repeat([]int{words[c]}, n)...)
		p.refuses(0, words[c], api.ErrFull)
	}
}

func TestAllocWithStacksOfOtherClasses(t *testing.T) {
	for c := range 4 {
		// 7 pages are free; what pools and caches of another class have does not help.
		p := made(t, 15, 2)
		p.mustAlloc(0, words[(c+1)%4])
		for range 2 {
			p.refuses(0, words[c], api.ErrFull)
			p.refuses(1, words[c], api.ErrFull)
		}
		p.flush(0)
		p.refuses(0, words[c], api.ErrFull)
	}
}

func TestAllocBetweenSpans(t *testing.T) {
	for c := range 4 {
		// Spans of 8 pages, of which every other one is freed: each is a run of its own.
		p := made(t, 40, 1)
		list := p.mustAlloc(0, 512, 512, 512, 512, 512)
		p.mustFree(0, list[1], list[3])
		got := p.mustAlloc(0, full(c, 2)...)
		if got[0] != 512 || got[per[c]] != 1536 {
			t.Errorf("15.2: Alloc of class %d goes by %v", c, got)
		}
		p.refuses(0, words[c], api.ErrFull)
	}
}

func TestAllocWithoutALongRun(t *testing.T) {
	for c := 5; c < 8; c++ {
		// Every other span is free: half of the pages, but no run is longer than 8 of them.
		p := made(t, 256, 2)
		list := p.mustAlloc(0, full(4, 32)...)
		for i, at := range list {
			if i%2 == 0 {
				p.mustFree(1, at)
			}
		}
		for range 2 {
			p.refuses(0, words[c], api.ErrFull)
		}
		p.mustAlloc(0, 512)
		// What makes a run long enough is found, wherever it lies.
		run := takes[c] / 8
		for i := 256/8 - run; i < 256/8; i++ {
			p.free(0, list[i])
		}
		if got := p.mustAlloc(1, words[c]); got[0] != 64*(256-takes[c]) {
			t.Errorf("15.2: Alloc of class %d is %v", c, got)
		}
	}
}

func TestAllocInShopsWithoutASpan(t *testing.T) {
	for pages := 1; pages < 8; pages++ {
		p := made(t, pages, 2)
		for _, on := range []bool{false, true, false} {
			p.gc(on)
			for _, n := range words {
				p.refuses(0, n, api.ErrFull)
				p.refuses(1, n-1, api.ErrFull)
			}
			p.refuses(0, 0, api.ErrArg)
			p.refuses(1, 4097, api.ErrArg)
			p.refuses(2, 1, api.ErrArg)
			p.none(0, 0, 32, 64)
			p.flush(-1, 0, 1, 2)
		}
	}
}

func TestAllocOfLargeAtTheEdges(t *testing.T) {
	for c := 4; c < 8; c++ {
		made(t, takes[c]-1, 1).refuses(0, words[c], api.ErrFull)
		p := made(t, takes[c], 2)
		p.mustAlloc(0, words[c])
		p.refuses(1, words[c], api.ErrFull)
		p.refuses(0, 1, api.ErrFull)
		p.mustFree(1, 0)
		p.mustAlloc(1, words[c-1]+1)
	}
}

func TestAllocOfTheFirstOfTheList(t *testing.T) {
	for c := 4; c < 8; c++ {
		for _, order := range orders(3) {
			p := made(t, 256, 2)
			list := p.mustAlloc(0, words[c], words[c], words[c])
			p.gc(true)
			for _, i := range order {
				p.mustFree(i%2, list[i])
			}
			// The list is one for all workers.
			if got := p.mustAlloc(1, words[c], words[c], words[c]); !slices.Equal(got, list) {
				t.Errorf("15.2: after Free by %v, Alloc of class %d goes by %v", order, c, got)
			}
			// It has none any more, so the next one is from the heap.
			if at, e := p.alloc(0, words[c]); e == api.OK && at != 3*words[c] {
				t.Errorf("15.2: Alloc of class %d from the heap is %d", c, at)
			}
		}
	}
}

func TestAllocOfAnotherClassThanTheList(t *testing.T) {
	for c := 4; c < 8; c++ {
		for other := range 8 {
			if other == c {
				continue
			}
			p := made(t, takes[c], 1)
			p.mustAlloc(0, words[c])
			p.gc(true)
			p.mustFree(0, 0)
			// All pages are of the one stack in the list, and only its class is served.
			p.refuses(0, words[other], api.ErrFull)
			p.mustAlloc(0, words[c])
			p.mustFree(0, 0)
			p.gc(false)
			p.alloc(0, words[other])
		}
	}
}

func TestAllocDoesNotTakeWhatIsKeptBack(t *testing.T) {
	for c := range 4 {
		p := made(t, 8, 2)
		p.gc(true)
		p.mustFree(0, p.mustAlloc(0, words[c])...)
		p.flush(0)
		for _, n := range words {
			p.refuses(0, n, api.ErrFull)
			p.refuses(1, n, api.ErrFull)
		}
		p.gc(false)
		p.mustAlloc(0, words[c])
	}
}

func TestFreeOfEachClass(t *testing.T) {
	for c := range 8 {
		for w := range 3 {
			for _, on := range []bool{false, true} {
				p := made(t, 256, 3)
				list := p.mustAlloc(1, 1, words[c], words[c], 512, words[c])
				p.gc(on)
				for _, at := range []int{list[2], list[1], list[4]} {
					p.mustFree(w, at)
					p.none(0, at)
					p.none(1, at)
				}
				p.mustFree(w, list[0], list[3])
				p.none(2, list...)
				p.flush(1, w)
				p.gc(false)
				p.empty("all is freed and flushed")
			}
		}
	}
}

// TestFreeOfMoreThanCap frees stacks of two spans one after the other: which ones go back, and what stays.
func TestFreeOfMoreThanCap(t *testing.T) {
	for c := range 4 {
		p := made(t, 16, 2)
		list := p.mustAlloc(0, full(c, 2)...)
		want := []int{}
		for i, at := range list {
			p.mustFree(1, at)
			want = slices.Insert(want, 0, at)
			if i == 2*batch[c] {
				want = want[len(want)-batch[c]:]
			}
			if got := p.s.Cached(1, c); !slices.Equal(got, want) {
				t.Fatalf("15.3: after Free number %d of class %d the cache is %v, not %v", i+1, c, got, want)
			}
			if i == 2*batch[c] {
				break
			}
		}
		// They went back from the first one on, so that the last of them is the first one of its span.
		if at := p.mustAlloc(0, words[c])[0]; at != list[batch[c]] {
			t.Errorf("15.3: Alloc of what went back is %d, not %d", at, list[batch[c]])
		}
	}
}

// TestFreeOfMoreThanCapOfSeveralSpans lets stacks go back to spans in another order than that of the addresses.
func TestFreeOfMoreThanCapOfSeveralSpans(t *testing.T) {
	for c := range 4 {
		for k := 1; k < 7; k += 2 {
			for _, on := range []bool{false, true} {
				p := made(t, 64, 2)
				list := p.mustAlloc(0, full(c, 4)...)
				n := len(list)
				p.gc(on)
				for i := range n {
					// 1, 3 and 5 share no divisor with the number of stacks.
					p.mustFree(i%5%2, list[(i*k+3)%n])
				}
				p.flush(1, 0)
				p.gc(false)
				p.empty("all is freed and flushed")
			}
		}
	}
}

func TestFreeWhereNoStackBegins(t *testing.T) {
	for c := range 8 {
		for _, on := range []bool{false, true} {
			p := made(t, 128, 2)
			p.gc(on)
			list := p.mustAlloc(0, words[c], words[c])
			for at := -70; at < 64*128+70; at++ {
				if slices.Contains(list, at) {
					continue
				}
				if e := p.s.Free(at&1, at); e != api.ErrNone {
					t.Fatalf("15.3: Free(%d, %d) with stacks of class %d at %v is %d", at&1, at, c, list, e)
				}
			}
			p.hold("Free where no stack begins")
			p.none(1, far(64*128)...)
			p.mustFree(1, list...)
		}
	}
}

func TestFreeOfWhatIsNotLive(t *testing.T) {
	p := made(t, 64, 2)
	list := p.mustAlloc(0, 200, 200, 512, 1024, 60, 60)
	p.gc(true)
	p.mustFree(0, list[:5]...)
	p.mustFree(1, list[5])
	p.flush(0)
	p.mustAlloc(0, 60, 60)
	want := api.Parts{
		Runs:  []api.Piece{{At: 2560, Words: 1536}},
		Pool:  []api.Piece{{At: 2304, Words: 64}, {At: 2368, Words: 64}, {At: 2432, Words: 64}, {At: 2496, Words: 64}},
		Cache: []api.Piece{{At: 2048, Words: 64}, {At: 2176, Words: 64}},
		Large: []api.Piece{{At: 512, Words: 512}, {At: 1024, Words: 1024}},
		Late:  []api.Piece{{At: 0, Words: 512}},
		Live:  []api.Piece{{At: 2112, Words: 64}, {At: 2240, Words: 64}},
	}
	if got := p.s.Parts(); !same(got, want) {
		t.Fatalf("15.4: Parts is %v, not %v", got, want)
	}
	for at := 0; at < 4096; at += 32 {
		if at != 2112 && at != 2240 {
			p.none(at/32%2, at)
		}
	}
	p.none(1, 2111, 2113, 2112+16, 2112+63)
	p.mustFree(1, 2112)
	p.none(1, 2112)
	p.none(0, 2112)
}

// TestFreeOfTheLastStackOfASpan lets a span go back whose stacks go back by Flush, each of them being the last one once.
func TestFreeOfTheLastStackOfASpan(t *testing.T) {
	for c := range 4 {
		for last := range per[c] {
			for _, on := range []bool{false, true} {
				p := made(t, 24, 2)
				list := p.mustAlloc(0, slices.Concat([]int{512}, full(c, 1), []int{512})...)
				p.gc(on)
				for i := range per[c] {
					p.mustFree(1, list[1+(last+1+i)%per[c]])
				}
				p.flush(1)
				want := api.Parts{Live: []api.Piece{{At: 0, Words: 512}, {At: 1024, Words: 512}}}
				if on {
					want.Late = []api.Piece{{At: 512, Words: 512}}
				} else {
					want.Runs = []api.Piece{{At: 512, Words: 512}}
				}
				if got := p.s.Parts(); !same(got, want) {
					t.Fatalf("15.3: when a span of class %d is free, Parts is %v, not %v", c, got, want)
				}
				p.none(0, list[1:1+per[c]]...)
			}
		}
	}
}

// TestFreeBeyondCapOfTheLastStackOfASpan lets a span go back within a Free.
func TestFreeBeyondCapOfTheLastStackOfASpan(t *testing.T) {
	for c := range 4 {
		for _, on := range []bool{false, true} {
			p := made(t, 24, 2)
			list := p.mustAlloc(0, slices.Concat(full(c, 2), []int{512})...)
			p.gc(on)
			// A batch of the first span stays below all of the second one, on which others lie until these go back.
			n := batch[c]
			p.mustFree(1, list[:n]...)
			p.mustFree(1, list[per[c]:2*per[c]]...)
			for len(p.s.Cached(1, c)) > batch[c] {
				p.mustFree(1, list[n])
				n++
			}
			want := [2][]api.Piece{nil, {{At: 512, Words: 512}}}
			if !on {
				slices.Reverse(want[:])
			}
			if got := p.s.Parts(); !slices.Equal(got.Runs, want[0]) || !slices.Equal(got.Late, want[1]) {
				t.Errorf("15.3: with the phase %t a span of class %d that went back leaves %v", on, c, got)
			}
		}
	}
}

// orders are all orders of the numbers below n.
func orders(n int) [][]int {
	if n == 0 {
		return [][]int{nil}
	}
	all := [][]int{}
	for _, order := range orders(n - 1) {
		for i := 0; i < n; i++ {
			all = append(all, slices.Insert(slices.Clone(order), i, n-1))
		}
	}
	return all
}

func TestFreeInAnyOrder(t *testing.T) {
	for _, sizes := range [][]int{{128, 128, 128, 128}, {256, 256, 256, 256, 256}, {256, 128, 512, 1024, 256}, {512, 32, 512, 64, 2048}, {1024, 512, 1024, 512}} {
		for _, order := range orders(len(sizes)) {
			for _, on := range []bool{false, true} {
				p := made(t, 80, 3)
				list := []int{}
				for i, n := range sizes {
					list = append(list, p.mustAlloc(i%2, n)...)
				}
				p.gc(on)
				for i, k := range order {
					p.mustFree(i%3, list[k])
				}
				p.flush(2, 0)
				p.gc(false)
				p.flush(1)
				p.empty("all is freed and flushed")
			}
		}
	}
}

func TestFreeWithPhasesBetween(t *testing.T) {
	sizes := []int{256, 512, 256, 1024}
	for _, order := range orders(4) {
		// The bits of turns say where the phase changes.
		for turns := range 64 {
			p := made(t, 40, 2)
			list := p.mustAlloc(0, sizes...)
			on := false
			turn := func(i int) {
				if turns>>i&1 == 1 {
					on = !on
					p.gc(on)
				}
			}
			for i, k := range order {
				turn(i)
				p.mustFree(i%2, list[k])
			}
			turn(4)
			p.flush(0)
			turn(5)
			p.flush(1)
			p.gc(false)
			p.empty("all is freed and flushed")
		}
	}
}

// stuffed returns a shop whose workers have stacks of all small classes in their caches, as many as there may be.
func stuffed(t *testing.T, workers int) *pair {
	t.Helper()
	p := made(t, 256, workers)
	list := [4][]int{}
	for c := range list {
		list[c] = p.mustAlloc(0, slices.Repeat([]int{words[c]}, workers*2*batch[c])...)
	}
	p.flush(0)
	for i := range 2 * batch[0] {
		for _, w := range p.workers() {
			for c := range list {
				if i < 2*batch[c] {
					// The workers take turns, so that the spans go to all of them.
					p.mustFree(w, list[c][i*workers+w])
				}
			}
		}
	}
	for _, w := range p.workers() {
		for c := range list {
			if got := p.s.Cached(w, c); len(got) != 2*batch[c] {
				t.Fatalf("15.3: the cache of class %d of %d is %v", c, w, got)
			}
		}
	}
	return p
}

func TestFlush(t *testing.T) {
	for workers := 1; workers <= 6; workers++ {
		for _, on := range []bool{false, true} {
			p := stuffed(t, workers)
			live := p.mustAlloc(workers-1, 32, 64, 128, 256, 512)
			p.gc(on)
			for w := workers - 1; w >= 0; w-- {
				before := make([][8][]int, workers)
				for x := range before {
					for c := range 8 {
						before[x][c] = p.s.Cached(x, c)
					}
				}
				p.flush(w, w, -1, workers)
				for x := range before {
					for c := range 8 {
						want := before[x][c]
						if x == w {
							want = nil
						}
						if got := p.s.Cached(x, c); !slices.Equal(got, want) {
							t.Fatalf("15.4: Flush(%d) leaves the cache %v of %d, class %d, not %v", w, got, x, c, want)
						}
					}
				}
			}
			p.mustFree(0, live...)
			p.flush(p.workers()...)
			p.gc(false)
			p.empty("all is freed and flushed")
		}
	}
}

func TestFlushOfEmptyCaches(t *testing.T) {
	p := made(t, 64, 3)
	for _, on := range []bool{false, true, false} {
		p.gc(on)
		p.flush(0, 1, 2, 3, -1, 0)
		// Large stacks alone fill no cache.
		p.mustFree(1, p.mustAlloc(0, 512, 1024)...)
		p.mustAlloc(2, 256)
		p.flush(0, 1, 2)
	}
	p.mustFree(1, 0, 256)
	p.flush(0, 2)
	if got := p.s.Cached(1, 3); !slices.Equal(got, []int{256, 0}) {
		t.Errorf("15.4: Flush of the others leaves %v", got)
	}
}

// TestFlushGoesByClass flushes while the phase is on: the queue frees the spans in the order in which they came.
func TestFlushGoesByClass(t *testing.T) {
	p := made(t, 40, 1)
	for c := 3; c >= 0; c-- {
		p.mustFree(0, p.mustAlloc(0, words[c])...)
	}
	p.gc(true)
	p.flush(0)
	// Class 0 is the highest one in the arena.
	if got := p.s.back.Pages; !slices.Equal(got, []int{24, 16, 8, 0}) {
		t.Errorf("15.4: Flush puts the spans %v into the queue", got)
	}
	p.gc(false)
	p.empty("all is freed and flushed")
}

// TestFlushFromTheFirstOn flushes a cache: the last one to go back is the first one of its span then.
func TestFlushFromTheFirstOn(t *testing.T) {
	for c := range 3 {
		p := made(t, 16, 2)
		list := p.mustAlloc(0, full(c, 1)...)
		p.mustFree(1, list[0], list[1], list[2])
		p.flush(1)
		want := [3][]int{{0, 64, 96}, {0, 64, 128}, {0, 128, 256}}[c]
		if got := p.mustAlloc(0, words[c], words[c], words[c]); !slices.Equal(got, want) {
			t.Errorf("15.4: after Flush, Alloc of class %d goes by %v, not %v", c, got, want)
		}
	}
}

func TestGCOfAnEmptyQueue(t *testing.T) {
	for _, sizes := range [][]int{nil, {40}, {512}, {1, 40, 100, 200, 512, 1000, 2000, 4000}} {
		p := made(t, 256, 2)
		p.mustAlloc(1, sizes...)
		before := p.s.Parts()
		for _, on := range []bool{false, false, true, true, false, true, false, false} {
			p.gc(on)
			if p.s.On() != on {
				t.Errorf("15.4: after GC(%t) On is %t", on, !on)
			}
			if got := p.s.Parts(); !same(got, before) {
				t.Errorf("15.4: after GC(%t) Parts is %v, not %v", on, got, before)
			}
		}
	}
}

// kept returns a shop in which three spans are kept back and five large stacks are in the list, with others live and in
// caches between them.
func kept(t *testing.T) *pair {
	t.Helper()
	p := made(t, 256, 3)
	sizes := slices.Concat([]int{2000}, full(3, 1), []int{512, 1000}, full(2, 1), []int{1000, 512, 4000, 60}, full(0, 1), []int{512})
	list := p.mustAlloc(0, sizes...)
	p.gc(true)
	// The queue and the list get theirs in another order than that of the addresses.
	p.mustFree(0, list[0], list[4])
	p.mustFree(1, list[10], list[3], list[9])
	p.mustFree(0, list[13:29]...)
	p.flush(0)
	p.mustFree(1, list[2], list[1])
	p.flush(1)
	p.mustFree(2, list[5:9]...)
	p.flush(2)
	p.mustAlloc(1, 60)
	p.mustFree(2, list[12])
	return p
}

func TestGCOfSeveral(t *testing.T) {
	p := kept(t)
	if got := p.s.Parts(); len(got.Late) != 3 || len(got.Large) != 5 || len(got.Live) != 3 || len(got.Cache) < 3 || len(got.Pool) < 2 {
		t.Fatalf("15.4: what is kept back is %v", got)
	}
	live, cached, free := p.s.Live(), p.s.Parts().Cache, p.s.Parts().Pool
	p.gc(true)
	if got := p.s.Parts(); len(got.Late) != 3 || len(got.Large) != 5 {
		t.Errorf("15.4: after a second GC(true) Parts is %v", got)
	}
	p.gc(false)
	got := p.s.Parts()
	if len(got.Late) != 0 || len(got.Large) != 0 {
		t.Errorf("15.4: after GC(false) Parts is %v", got)
	}
	if !slices.Equal(p.s.Live(), live) || !slices.Equal(got.Cache, cached) || !slices.Equal(got.Pool, free) {
		t.Errorf("15.4: GC(false) changes more than it may: %v", got)
	}
	p.gc(false)
	p.gc(true)
	if again := p.s.Parts(); !same(again, got) {
		t.Errorf("15.4: without anything kept back, GC changes Parts from %v to %v", got, again)
	}
}

func TestGCLeavesFullCaches(t *testing.T) {
	p := stuffed(t, 6)
	for _, on := range []bool{true, false, false, true, true, false} {
		p.gc(on)
		for _, w := range p.workers() {
			for c := range 4 {
				if got := p.s.Cached(w, c); len(got) != 2*batch[c] {
					t.Fatalf("15.4: GC(%t) leaves the cache %v of class %d of %d", on, got, c, w)
				}
			}
		}
	}
}

func TestAllocAnewBehindGC(t *testing.T) {
	for c := range 8 {
		p := made(t, takes[c], 2)
		for range 3 {
			list := p.mustAlloc(0, full(c, 1)...)
			p.gc(true)
			p.mustFree(1, list...)
			p.flush(1)
			p.gc(false)
			p.none(0, list...)
			// The pages are of the heap again, for whatever class.
			for other := range 8 {
				if takes[other] <= takes[c] {
					p.mustFree(1, p.mustAlloc(1, words[other])...)
					p.flush(1)
				}
			}
		}
	}
}

func TestKeptBackAndAllocatedAnew(t *testing.T) {
	for c := range 4 {
		for other := range 4 {
			p := made(t, 16, 1)
			p.gc(true)
			for _, k := range []int{c, other} {
				p.mustFree(0, p.mustAlloc(0, words[k])...)
				p.flush(0)
			}
			p.refuses(0, words[c], api.ErrFull)
			p.gc(false)
			list := p.mustAlloc(0, full(other, 2)...)
			p.gc(true)
			p.mustFree(0, list...)
			p.flush(0)
			if got := p.s.Parts().Late; !slices.Equal(got, []api.Piece{{At: 0, Words: 512}, {At: 512, Words: 512}}) {
				t.Errorf("15.3: what is kept back a second time is %v", got)
			}
			p.gc(false)
		}
	}
}

func TestPhaseBetweenTwoStacksOfASpan(t *testing.T) {
	for c := range 4 {
		for _, on := range []bool{false, true} {
			p := made(t, 16, 2)
			list := p.mustAlloc(0, full(c, 1)...)
			p.gc(!on)
			p.mustFree(1, list[1:]...)
			p.flush(1)
			p.mustFree(0, list[0])
			// Only the phase in which the last one goes back counts.
			p.gc(on)
			p.flush(0)
			if got := len(p.s.Parts().Late) == 1; got != on {
				t.Errorf("15.4: with the phase %t the span of class %d is kept back: %t", on, c, got)
			}
		}
	}
}

func TestPartsBehindEachCall(t *testing.T) {
	p := made(t, 40, 2)
	piece := func(list ...int) []api.Piece {
		l := []api.Piece{}
		for i := 0; i < len(list); i += 2 {
			l = append(l, api.Piece{At: list[i], Words: list[i+1]})
		}
		return l
	}
	is := func(what string, want api.Parts) {
		t.Helper()
		if got := p.s.Parts(); !same(got, want) {
			t.Fatalf("15.4: after %s Parts is %v, not %v", what, got, want)
		}
	}
	p.alloc(0, 1024)
	is("Alloc of class 5", api.Parts{Runs: piece(1024, 1536), Live: piece(0, 1024)})
	p.alloc(1, 512)
	is("Alloc of class 4", api.Parts{Runs: piece(1536, 1024), Live: piece(0, 1024, 1024, 512)})
	p.alloc(1, 129)
	is("Alloc of class 3", api.Parts{Runs: piece(2048, 512), Pool: piece(1792, 256), Live: piece(0, 1024, 1024, 512, 1536, 256)})
	p.alloc(0, 65)
	is("Alloc of class 2", api.Parts{Pool: piece(1792, 256, 2304, 128, 2432, 128), Cache: piece(2176, 128), Live: piece(0, 1024, 1024, 512, 1536, 256, 2048, 128)})
	p.gc(true)
	p.free(1, 0)
	p.free(0, 1024)
	// The list has the stack of class 4 first, and yet the pieces ascend.
	is("Free of large stacks", api.Parts{Pool: piece(1792, 256, 2304, 128, 2432, 128), Cache: piece(2176, 128), Large: piece(0, 1024, 1024, 512), Live: piece(1536, 256, 2048, 128)})
	p.free(0, 1536)
	p.free(1, 2048)
	// The worker 0 has a stack of class 2 and one of class 3, and the worker 1 has one between them.
	is("Free of small stacks", api.Parts{Pool: piece(1792, 256, 2304, 128, 2432, 128), Cache: piece(1536, 256, 2048, 128, 2176, 128), Large: piece(0, 1024, 1024, 512)})
	p.flush(1)
	is("Flush of 1", api.Parts{Pool: piece(1792, 256, 2048, 128, 2304, 128, 2432, 128), Cache: piece(1536, 256, 2176, 128), Large: piece(0, 1024, 1024, 512)})
	p.flush(0)
	// The queue has the span at 2048 first, as class 2 comes before class 3.
	is("Flush of 0", api.Parts{Large: piece(0, 1024, 1024, 512), Late: piece(1536, 512, 2048, 512)})
	p.alloc(1, 400)
	is("Alloc from the list", api.Parts{Large: piece(0, 1024), Late: piece(1536, 512, 2048, 512), Live: piece(1024, 512)})
	p.gc(false)
	is("GC(false)", api.Parts{Runs: piece(0, 1024, 1536, 1024), Live: piece(1024, 512)})
	p.free(0, 1024)
	is("Free of all", api.Parts{Runs: piece(0, 2560)})
}

func TestPartsAscend(t *testing.T) {
	// The spans of the higher classes lie lower, each chain is turned round, and the caches have stacks of all of them.
	p := made(t, 64, 3)
	list := p.mustAlloc(2, slices.Concat(full(3, 1), full(2, 1), full(1, 1), full(0, 1), full(3, 1), full(0, 1))...)
	for i, at := range list {
		if i%4 != 1 {
			p.mustFree(i%4%3, at)
		}
	}
	if got := p.s.Parts(); len(got.Pool) < 10 || len(got.Cache) < 15 || len(got.Live) < 10 {
		t.Errorf("15.4: Parts is %v", got)
	}
}

func TestCachedOfClasses(t *testing.T) {
	p := stuffed(t, 3)
	p.mustFree(1, p.mustAlloc(0, 512, 1024, 2048)...)
	for w := range 3 {
		for _, c := range []int{least, least + 1, least + 3, -1 << 32, -8, -4, -1, 4, 5, 6, 7, 8, 9, 12, 16, 64, 1 << 31, 1 << 32, 1<<32 + 1, most - 1, most} {
			if got := p.s.Cached(w, c); len(got) != 0 {
				t.Errorf("15.4: Cached(%d, %d) is %v", w, c, got)
			}
		}
	}
	p.hold("Cached of what is not there")
}

func TestSpansOfTheHeapHaveTheClass(t *testing.T) {
	for c := range 8 {
		p := made(t, 64, 1)
		p.mustAlloc(0, words[c])
		want := []api.Span{{At: 0, N: takes[c], Class: c}}
		if got := p.s.heap.Spans(); !slices.Equal(got, want) {
			t.Errorf("15.2: after Alloc(0, %d) the heap has the spans %v, not %v", words[c], got, want)
		}
	}
}

// deed does one of a few calls on a shop of two workers and on its picture.
func (p *pair) deed(kind int) {
	p.Helper()
	live := p.draw.live()
	switch {
	case kind < 4:
		w, n := kind%2, [2]int{200, 128}[kind/2]
		want, code := p.draw.alloc(w, n)
		if at, e := p.s.Alloc(w, n); at != want || e != code {
			p.Fatalf("15.2: Alloc(%d, %d) is %d, %d, not %d, %d", w, n, at, e, want, code)
		}
	case kind == 4:
		p.draw.gc(!p.draw.on)
		p.s.GC(!p.s.On())
	case kind == 5:
		if want, e := p.draw.flush(0), p.s.Flush(0); e != want {
			p.Fatalf("15.4: Flush(0) is %d, not %d", e, want)
		}
	case len(live) > 0:
		at := live[(kind-6)*(len(live)-1)].At
		want := p.draw.free(kind-6, at)
		if e := p.s.Free(kind-6, at); e != want {
			p.Fatalf("15.3: Free(%d, %d) is %d, not %d", kind-6, at, e, want)
		}
	}
}

// TestAllShortHistories holds the shop against the picture after all rows of a few calls.
func TestAllShortHistories(t *testing.T) {
	for length := range 6 {
		for row := range 1 << (3 * length) {
			p := &pair{t, New(16, 2), drawn(16, 2)}
			for i := range length {
				p.deed(row >> (3 * i) & 7)
			}
			p.hold(fmt.Sprintf("the row %o of %d calls", row, length))
		}
	}
}

// next steps a fixed row of numbers.
func next(x *uint64) int {
	*x ^= *x << 13
	*x ^= *x >> 7
	*x ^= *x << 17
	return int(*x >> 33)
}

// justified holds, if an Alloc of n words for a worker was refused for want of room, that nothing was there that would do.
func (p *pair) justified(w, n int) {
	p.Helper()
	c := class(n)
	parts := p.s.Parts()
	for _, x := range parts.Runs {
		if x.Words >= 64*takes[c] {
			p.Fatalf("T4: Alloc(%d, %d) is refused, and %v is a free run", w, n, x)
		}
	}
	for _, x := range slices.Concat(parts.Pool, parts.Large) {
		if x.Words == words[c] {
			p.Fatalf("T4: Alloc(%d, %d) is refused, and %v is there", w, n, x)
		}
	}
	if l := p.s.Cached(w, c); len(l) > 0 {
		p.Fatalf("T4: Alloc(%d, %d) is refused, and the cache is %v", w, n, l)
	}
}

// ask allocates stacks for a worker in a long history.
func (p *pair) ask(w int, seed *uint64) {
	p.Helper()
	live := p.s.Live()
	// Small stacks are asked for more often than large ones.
	n := 1 + next(seed)%(1<<(5+next(seed)%8))
	at, e := p.alloc(w, n)
	if e != api.OK {
		p.justified(w, n)
	} else if slices.ContainsFunc(live, func(l api.Live) bool { return at < l.At+words[l.Class] && l.At < at+words[class(n)] }) {
		p.Fatalf("15.2, T1: Alloc(%d, %d) is %d, where a stack of %v is live", w, n, at, live)
	}
}

// step does one call of a long history.
func (p *pair) step(seed *uint64) {
	p.Helper()
	live := p.s.Live()
	w := next(seed) % len(p.draw.caches)
	switch k := next(seed) % 32; {
	case k == 0:
		p.gc(next(seed)%2 == 0)
	case k == 1:
		p.free(next(seed)%9-1, next(seed)%17000-300)
	case k == 2:
		p.alloc(next(seed)%9-1, next(seed)%9000-2000)
	case k == 3:
		p.flush(next(seed)%9 - 1)
	case k < 18:
		p.ask(w, seed)
	case len(live) > 0:
		p.mustFree(w, live[next(seed)%len(live)].At)
	}
}

// drain frees all stacks and flushes all caches in a row without an order, turning the phase on and off between.
func (p *pair) drain(seed *uint64) {
	p.Helper()
	n := len(p.draw.caches)
	for live := p.s.Live(); len(live) > 0; live = p.s.Live() {
		switch next(seed) % 8 {
		case 0:
			p.gc(next(seed)%2 == 0)
		case 1:
			p.flush(next(seed) % n)
		}
		p.mustFree(next(seed)%n, live[next(seed)%len(live)].At)
	}
	first := next(seed) % n
	for i := range n {
		if i == next(seed)%n {
			p.gc(next(seed)%2 == 0)
		}
		p.flush((first + i) % n)
	}
	p.gc(false)
	p.empty("all is freed and flushed")
}

func TestHistory(t *testing.T) {
	seed := uint64(88172645463325252)
	for i, pages := range []int{8, 17, 40, 64, 100, 143, 256} {
		p := made(t, pages, 1+i%6)
		for k := range 2000 {
			p.step(&seed)
			if k%500 == 499 {
				p.drain(&seed)
			}
		}
	}
}

// spoil writes over a list and over its spare capacity.
func spoil[T any](list []T, with T) {
	list = list[:cap(list)]
	for i := range list {
		list[i] = with
	}
}

func TestResultsAreNewMemory(t *testing.T) {
	p := kept(t)
	for round := range 6 {
		spoil(p.s.Live(), api.Live{At: -7, Class: -7, Owner: -7})
		p.hold("spoiled live stacks")
		for _, l := range lists(p.s.Parts()) {
			spoil(l, api.Piece{At: -7, Words: -7})
		}
		p.hold("spoiled pieces")
		for w := range 4 {
			for c := range 9 {
				spoil(p.s.Cached(w, c), -7)
			}
		}
		p.hold("spoiled caches")
		live, parts, cached := p.s.Live(), p.s.Parts(), p.s.Cached(1, 1)
		oldLive, oldParts, oldCached := p.draw.live(), p.draw.parts(), p.draw.caches[1][1]
		_ = append(p.s.Live(), api.Live{At: 1})
		_ = append(p.s.Cached(1, 1), 1)
		switch round {
		case 0, 1, 2:
			p.mustAlloc(1, 30, 60, 500, 1000)
		case 3:
			p.mustFree(1, oldLive[0].At, oldLive[2].At)
		case 4:
			p.gc(false)
			p.flush(1)
		}
		if !slices.Equal(live, oldLive) || !same(parts, oldParts) || !slices.Equal(cached, oldCached) {
			t.Fatalf("R4: what was told before has changed: %v, %v, %v", live, parts, cached)
		}
	}
}

func TestResultsAreApart(t *testing.T) {
	p := kept(t)
	for i := range 7 {
		parts := p.s.Parts()
		want := lists(p.draw.parts())
		spoil(lists(parts)[i], api.Piece{At: -7, Words: -7})
		for k, l := range lists(parts) {
			if k != i && !slices.Equal(l, want[k]) {
				t.Errorf("R4: the lists %d and %d of Parts share memory", i+1, k+1)
			}
		}
	}
}

func TestShopsAreApart(t *testing.T) {
	a, b := made(t, 64, 3), made(t, 64, 3)
	a.mustAlloc(0, 32, 500, 32, 1000)
	b.hold("Alloc of another shop")
	b.gc(true)
	b.mustAlloc(0, 32, 100)
	b.mustFree(1, 0)
	a.hold("Alloc, Free and GC of another shop")
	b.none(0, 0)
	a.mustFree(1, 0)
	b.mustAlloc(1, 32)
	a.gc(true)
	a.flush(0, 1)
	b.gc(false)
	a.hold("GC of another shop")
	seed := uint64(88172645463325252)
	for range 300 {
		a.step(&seed)
		b.hold("a call of another shop")
		b.step(&seed)
		a.hold("a call of another shop")
	}
}

func TestAnswersRepeat(t *testing.T) {
	a, b := kept(t), kept(t)
	one, two := uint64(88172645463325252), uint64(88172645463325252)
	for range 200 {
		a.step(&one)
		a.hold("asking")
		a.hold("asking again")
		b.step(&two)
		if !slices.Equal(a.s.Live(), b.s.Live()) || !same(a.s.Parts(), b.s.Parts()) || a.s.On() != b.s.On() {
			t.Fatalf("R1: the same calls leave %v and %v", a.s.Parts(), b.s.Parts())
		}
	}
}

func TestErrorsChangeNothing(t *testing.T) {
	for _, on := range []bool{false, true} {
		p := made(t, 31, 2)
		list := p.mustAlloc(0, slices.Concat(full(3, 1), []int{500, 60})...)
		p.gc(on)
		p.mustFree(1, list[2])
		p.alloc(0, 512)
		before := p.s.Parts()
		for w := -1; w < 3; w++ {
			for _, n := range append(wrong(), 1000, 2000, 4000, 200, 100, 20) {
				if at, e := p.alloc(w, n); e == api.OK || at != 0 || !same(p.s.Parts(), before) {
					t.Errorf("R3, R5: Alloc(%d, %d) is %d, %d, and leaves %v", w, n, at, e, p.s.Parts())
				}
			}
			for _, at := range append(far(31*64), 1, 31, 32, 64, 255, 257, 1056, 1088) {
				if e := p.free(w, at); e == api.OK || !same(p.s.Parts(), before) {
					t.Errorf("R5: Free(%d, %d) is %d, and leaves %v", w, at, e, p.s.Parts())
				}
			}
		}
		p.flush(-1, 2)
		if !same(p.s.Parts(), before) {
			t.Errorf("R5: Flush of nobody leaves %v", p.s.Parts())
		}
		// What was free before is still served.
		p.mustAlloc(0, 60, 60)
		p.mustAlloc(1, full(1, 1)[3:]...)
	}
}

func TestNilShop(t *testing.T) {
	var s *Shop
	for range 2 {
		for _, n := range append(append(wrong(), far(512)...), words[:]...) {
			for _, w := range []int{least, -1, 0, 1, 6, most, n} {
				if at, e := s.Alloc(w, n); at != 0 || e != api.ErrNone {
					t.Errorf("R6: Alloc(%d, %d) of nil is %d, %d", w, n, at, e)
				}
				if e := s.Free(w, n); e != api.ErrNone {
					t.Errorf("R6: Free(%d, %d) of nil is %d", w, n, e)
				}
				if e := s.Flush(w); e != api.ErrNone {
					t.Errorf("R6: Flush(%d) of nil is %d", w, e)
				}
				if l := s.Cached(w, n); len(l) != 0 {
					t.Errorf("R6: Cached(%d, %d) of nil is %v", w, n, l)
				}
			}
		}
		if s.On() || len(s.Cached(0, 0)) != 0 || len(s.Live()) != 0 || !same(s.Parts(), api.Parts{}) {
			t.Errorf("R6: nil tells %t, %v, %v", s.On(), s.Live(), s.Parts())
		}
		s.GC(false)
		s.GC(true)
	}
}

// TestZeroShop asks a shop that New did not make: it has no workers.
func TestZeroShop(t *testing.T) {
	s := &Shop{}
	for _, on := range []bool{false, true, false} {
		s.GC(on)
		for _, w := range append(strangers(1), 0) {
			for _, n := range append(wrong(), words[:]...) {
				if at, e := s.Alloc(w, n); at != 0 || e != api.ErrArg {
					t.Errorf("R1: Alloc(%d, %d) without workers is %d, %d", w, n, at, e)
				}
			}
			if e := s.Free(w, 0); e != api.ErrArg {
				t.Errorf("R1: Free(%d, 0) without workers is %d", w, e)
			}
			if e := s.Flush(w); e != api.ErrArg {
				t.Errorf("R1: Flush(%d) without workers is %d", w, e)
			}
			if l := s.Cached(w, 0); len(l) != 0 {
				t.Errorf("R1: Cached(%d, 0) without workers is %v", w, l)
			}
		}
		if s.On() != on || len(s.Live()) != 0 || !same(s.Parts(), api.Parts{}) {
			t.Errorf("R1: no workers tell %t, %v, %v", s.On(), s.Live(), s.Parts())
		}
	}
}
